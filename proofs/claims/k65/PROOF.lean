import PyProof.Rows.All
import Wide.All
import OpenK.AllK
import Wide.FinOn
import HandS.ForMost
import HandS.IsInst
import HandS.Zip
import HandS.Walk
import HandS.More
import HandS.SortKw
import HandS.ForExc
import HandS.ExcInit
import HandS.ExcField
import HandS.TryMany
import HandS.ClsMeth
import HandS.FStr
import HandS.FStrTup
import HandS.WordsExc
import HandS.Defaults
import HandS.SuiteRaise
import HandS.RaiseFrom
import HandS.ExcInitHot
import KE.KAsSuite
import KE.KExcIs
import HandS.Text
import HandS.Flow
import PySem.Challenge.RW_swapslip_k65_refusals_made_by_themselves
set_option Elab.async false
set_option linter.all false
set_option maxRecDepth 100000
set_option maxHeartbeats 2000000


namespace PySem
namespace F
theorem args_sum2 (a b : Value) : argsOk "sum" ⟨[a, b], []⟩ := by unfold argsOk; kernel_rfl
end F
/-- the items of the lists from the i-th on, k of them -/
def catFrom (xs : Nat → Array Value) (i : Nat) : Nat → Array Value
  | 0 => #[]
  | k + 1 => xs i ++ catFrom xs (i + 1) k
section
variable {prog : Program} {w : World} {A : Around} {R : Result → Shared → Prop}
theorem sum_lists_loop (hh : A.in1.handled = none) (I ax S : Addr) (hne : ax ≠ I) (hSI : S ≠ I) (hSa : S ≠ ax) (items : Array Value) (ls : Nat → Addr) (xs : Nat → Array Value)
    (hit : ∀ (i : Nat) (v : Value), items[i]? = some v → v = Value.ref (ls i)) (hlI : ∀ i, i < items.size → ls i ≠ I) (hlS : ∀ i, i < items.size → ls i ≠ S) :
    ∀ (k i : Nat) (s : Shared) (acc : Addr) (ai : Array Value) (m c : Nat), items.size - i = k → i ≤ items.size → (s.heap.IsListIter I ax i ∧ s.heap.IsList ax items) →
      s.heap.get? S = some { cls := .type "list", dict := none, data := .seq #[.ref acc] c, slots := #[] } → s.heap.get? acc = some { cls := .type "list", data := .seq ai m } →
      (∀ j, j < items.size → ∃ n, s.heap.get? (ls j) = some { cls := .type "list", data := .seq (xs j) n }) → acc ≠ I → acc ≠ S →
      ai.size + (catFrom xs i k).size ≤ sizeLine →
      (∀ h' tk r n, (∀ b o, b ≠ I → b ≠ S → s.heap.get? b = some o → h'.get? b = some o) → h'.get? r = some { cls := .type "list", data := .seq (ai ++ catFrom xs i k) n } → (k = 0 → r = acc) → (0 < k → S < r) → R (.ok (.ret (.ref r))) { s with heap := h', toks := tk }) →
      codeAny (model prog w) A (.builtin "sum.loop" ⟨[.ref I, .ref S, rawInt 2, rawInt 0], []⟩) R s := by
  have W := Walks.list (prog := prog) (w := w) hh I ax hne items
  intro k
  induction k with
  | zero =>
    intro i s acc ai m c hk hi hst hS ha hl haI haS hz hR
    have hin : i = items.size := by omega
    subst hin
    refine codeAny_builtin F.entry_sum_loop ?_
    rw [Around.under_plainId F.plain_sum_loop _]
    show wpAny _ A.in1 (seqItems? (.ref S) >>= _) _ _ s
    refine wpAny_bind (wpAny_seqItems hS rfl ?_)
    show wpAny _ A.in1 (tryCatch (pyNext (.ref I)) _ >>= _) _ _ s
    refine wpAny_bind (wpAny_tryCatch (W.done s _ _ hst fun h' tk hk' => ?_))
    refine wpAny_pure (hR h' tk acc m (fun b o hbI hbS e => hk' b o (by simpa using hbI) e) ?_ (fun _ => rfl) (fun h => absurd h (Nat.lt_irrefl _)))
    have := hk' acc _ (by simpa using haI) ha
    simpa [catFrom] using this
  | succ k ih =>
    intro i s acc ai m c hk hi hst hS ha hl haI haS hz hR
    have hlt : i < items.size := by omega
    refine codeAny_builtin F.entry_sum_loop ?_
    rw [Around.under_plainId F.plain_sum_loop _]
    show wpAny _ A.in1 (seqItems? (.ref S) >>= _) _ _ s
    refine wpAny_bind (wpAny_seqItems hS rfl ?_)
    show wpAny _ A.in1 (tryCatch (pyNext (.ref I)) _ >>= _) _ _ s
    refine wpAny_bind (wpAny_tryCatch (W.item i s _ _ hlt hst fun v h' tk hP hst' hk' => ?_))
    have ev := hit i v hP
    subst ev
    have hS' := hk' S _ (by simpa using hSI) hS
    have ha' := hk' acc _ (by simpa using haI) ha
    obtain ⟨n1, hl1⟩ := hl i hlt
    have hl1' := hk' (ls i) _ (by simpa using hlI i hlt) hl1
    have hzz : ai.size + (xs i).size ≤ sizeLine := by
      have : (catFrom xs i (k + 1)).size = (xs i).size + (catFrom xs (i + 1) k).size := by simp [catFrom]
      omega
    show wpAny _ A.in1 ((holding [Value.ref (ls i)] (binaryOp .Add (.ref acc) (.ref (ls i)))).attempt >>= _) _ _ _
    refine wpAny_bind (wpAny_attempt (wpAny_holding (PySem.P.add_list (s := { s with heap := h', toks := tk }) ha' hl1' ?_ hzz)))
    have hSz : S < h'.objs.size := Heap.lt_size hS'
    have hIz : I < h'.objs.size := by obtain ⟨_, e, _⟩ := hst'.1; exact Heap.lt_size e
    have hS2 : (h'.push { cls := .type "list", data := .seq (ai ++ xs i) }).get? S = _ := Heap.get?_push_of_some _ hS'
    show wpAny _ A.in1 (updateSeq S (fun _ => #[.ref h'.objs.size]) >>= _) _ _ _
    refine wpAny_bind (wpAny_updateSeq hS2 rfl ?_)
    have hS₃ := Heap.get?_update_self (Obj.mapSeq fun _ => #[Value.ref h'.objs.size]) hS2 rfl
    refine wpAny_bind (wpAny_letGo ?_)
    refine wpAny_bind (wpAny_updateSeq hS₃ rfl ?_)
    have hS₄ := Heap.get?_update_self (Obj.mapSeq fun _ => #[Value.ref h'.objs.size]) hS₃ rfl
    have keep : ∀ b o, b ≠ S → h'.get? b = some o → (((h'.push { cls := .type "list", data := .seq (ai ++ xs i) }).update S (Obj.mapSeq fun _ => #[Value.ref h'.objs.size])).update S (Obj.mapSeq fun _ => #[Value.ref h'.objs.size])).get? b = some o := fun b o hb e =>
      (Heap.get?_update_other _ _ (Ne.symm hb)).trans ((Heap.get?_update_other _ _ (Ne.symm hb)).trans (Heap.get?_push_of_some _ e))
    have hnew : (((h'.push { cls := .type "list", data := .seq (ai ++ xs i) }).update S (Obj.mapSeq fun _ => #[Value.ref h'.objs.size])).update S (Obj.mapSeq fun _ => #[Value.ref h'.objs.size])).get? h'.objs.size = some { cls := .type "list", data := .seq (ai ++ xs i) } :=
      (Heap.get?_update_other _ _ (Nat.ne_of_lt hSz)).trans ((Heap.get?_update_other _ _ (Nat.ne_of_lt hSz)).trans (Heap.get?_push_size _ rfl))
    refine wpAny_pure ⟨plainId_quiet F.plain_sum_loop _, ih (i + 1) _ h'.objs.size (ai ++ xs i) _ _ (by omega) hlt (W.frame _ _ _ hst' fun b hb o e => keep b o ?_ e) hS₄ hnew ?_ (Nat.ne_of_gt hIz) (Nat.ne_of_gt hSz) ?_ ?_⟩
    · intro q; subst q
      rcases List.mem_cons.mp hb with q | q
      · exact hSI q
      · exact hSa (by simpa using q)
    · intro j hj
      obtain ⟨n2, e2⟩ := hl j hj
      exact ⟨n2, keep _ _ (hlS j hj) (hk' _ _ (by simpa using hlI j hj) e2)⟩
    · have : (catFrom xs i (k + 1)).size = (xs i).size + (catFrom xs (i + 1) k).size := by simp [catFrom]
      simp only [Array.size_append]
      omega
    · intro h2 tk2 r n hk2 hr h0 h1
      refine hR h2 tk2 r n (fun b o hbI hbS e => hk2 b o hbI hbS (keep b o hbS (hk' b o (by simpa using hbI) e))) ?_ (fun q => by omega) (fun _ => ?_)
      · simpa [catFrom, Array.append_assoc] using hr
      · by_cases h00 : k = 0
        · rw [h0 h00]; exact hSz
        · exact h1 (by omega)
end
section
variable {prog : Program} {w : World} {A : Around} {E : Value → Shared → Prop} {s : Shared}
theorem sub_list_str : isSubtype (.type "list") (.type "str") = pure false := by rw [isSubtype_type]; kernel_rfl
theorem sub_list_bytes : isSubtype (.type "list") (.type "bytes") = pure false := by rw [isSubtype_type]; kernel_rfl
theorem sub_list_bytearray : isSubtype (.type "list") (.type "bytearray") = pure false := by rw [isSubtype_type]; kernel_rfl
theorem call_sum_lists {l z : Addr} {items zi : Array Value} {nl nz : Nat} {Q : Value → Shared → Prop} (ls : Nat → Addr) (xs : Nat → Array Value) (hh : A.in1.handled = none)
    (hl : s.heap.get? l = some { cls := .type "list", data := .seq items nl }) (hz : s.heap.get? z = some { cls := .type "list", data := .seq zi nz })
    (hit : ∀ (i : Nat) (v : Value), items[i]? = some v → v = Value.ref (ls i)) (hls : ∀ j, j < items.size → ∃ n, s.heap.get? (ls j) = some { cls := .type "list", data := .seq (xs j) n }) (hpos : 0 < items.size)
    (hsz : zi.size + (catFrom xs 0 items.size).size ≤ sizeLine)
    (h : ∀ h' tk r n, (∀ b o, s.heap.get? b = some o → h'.get? b = some o) → s.heap.objs.size ≤ r → h'.get? r = some { cls := .type "list", data := .seq (zi ++ catFrom xs 0 items.size) n } → Q (.ref r) { s with heap := h', toks := tk }) :
    wpAny (model prog w) A (call (.builtin "sum") [.ref l, .ref z]) Q E s := by
  have hil : s.heap.IsList l items := ⟨_, hl, rfl, _, rfl⟩
  have hiz : s.heap.IsList z zi := ⟨_, hz, rfl, _, rfl⟩
  refine call_function_tree F.kind_sum F.plain_sum F.entry_sum (F.args_sum2 _ _) ?_
  unfold Builtin.«sum»
  simp only [List.length_cons, List.length_nil]
  rw [if_neg (by decide)]
  refine wpAny_bind (wpAny_of_eq (show Builtin.Builtins.bindParams "sum" ["start"] 0 ⟨[.ref z], []⟩ = pure [some (.ref z)] from rfl) ?_)
  refine wpAny_bind (L2.iter_any hil fun s₂ e2 st hne => ?_)
  subst e2
  refine wpAny_bind (wpAny_pure ?_)
  have hiz2 := hiz.push { cls := .type "list_iterator", data := .fields #[.ref l, .int 0 0] }
  simp only [List.forIn_cons, List.forIn_nil]
  refine wpAny_bind (wpAny_bind (wpAny_bind (wpAny_isInstance (T := "list") (b := false) hiz2.typeIs sub_list_str ?_)))
  simp only [Bool.false_eq_true, if_false]
  refine wpAny_pure (wpAny_bind (wpAny_bind (wpAny_isInstance (T := "list") (b := false) hiz2.typeIs sub_list_bytes ?_)))
  simp only [Bool.false_eq_true, if_false]
  refine wpAny_pure (wpAny_bind (wpAny_bind (wpAny_isInstance (T := "list") (b := false) hiz2.typeIs sub_list_bytearray ?_)))
  simp only [Bool.false_eq_true, if_false]
  refine wpAny_pure (wpAny_pure ?_)
  refine wpAny_bind (wpAny_newObj_type ?_)
  have hsz1 : (s.heap.push { cls := .type "list_iterator", data := .fields #[.ref l, .int 0 0] }).objs.size = s.heap.objs.size + 1 := Heap.size_push _ _
  have old : ∀ b o, s.heap.get? b = some o → ((s.heap.push { cls := .type "list_iterator", data := .fields #[.ref l, .int 0 0] }).push { cls := .type "list", data := .seq #[Value.ref z] }).get? b = some o := fun b o e =>
    Heap.get?_push_of_some _ (Heap.get?_push_of_some _ e)
  have lt : ∀ b o, s.heap.get? b = some o → b < s.heap.objs.size := fun b o e => Heap.lt_size e
  have lt2 : ∀ b, b < s.heap.objs.size → b ≠ (s.heap.push { cls := .type "list_iterator", data := .fields #[.ref l, .int 0 0] }).objs.size := fun b hb => Nat.ne_of_lt (by rw [hsz1]; exact Nat.lt_succ_of_lt hb)
  refine wpAny_pure ⟨plainId_quiet F.plain_sum_loop _, sum_lists_loop (A := A) hh s.heap.objs.size l (s.heap.push { cls := .type "list_iterator", data := .fields #[.ref l, .int 0 0] }).objs.size hne (Nat.ne_of_gt (by rw [hsz1]; exact Nat.lt_succ_self _)) (Ne.symm (lt2 _ (lt _ _ hl))) items ls xs hit
    (fun i hi => by obtain ⟨n, e⟩ := hls i hi; exact Nat.ne_of_lt (lt _ _ e)) (fun i hi => by obtain ⟨n, e⟩ := hls i hi; exact lt2 _ (lt _ _ e))
    items.size 0 _ z zi nz 0 (by omega) (Nat.zero_le _) ⟨st.1.at fun o e => Heap.get?_push_of_some _ e, st.2.push _⟩ (Heap.get?_push_size _ rfl) (old _ _ hz) (fun j hj => by obtain ⟨n, e⟩ := hls j hj; exact ⟨n, old _ _ e⟩)
    (Nat.ne_of_lt (lt _ _ hz)) (lt2 _ (lt _ _ hz)) hsz fun h' tk r n hk hr _ h1 => ?_⟩
  refine h h' tk r n (fun b o e => hk b o (Nat.ne_of_lt (lt _ _ e)) (lt2 _ (lt _ _ e)) (old b o e)) ?_ hr
  have := h1 hpos
  rw [hsz1] at this
  exact Nat.le_of_lt (Nat.lt_of_succ_lt this)
end
end PySem

namespace L2
open PySem PySem.Spec PyProof.Rows
section
variable {X : Cx}
/-- xs[i] as it is read in xs[i] op= e -/
def rGetL (K : PySem.W.Frag) : R2 := fun x y H Q => ∃ p xs i v, x = .ref p ∧ y = .int i ∧ SqL K H p xs ∧ 0 ≤ i ∧ xs[i.toNat]? = some v ∧ Q v H
theorem get_listA : PGet X (rGetL X.K) := by
  intro pins s σ H x y v u Q I rx ry h
  obtain ⟨p, xs, i, z, rfl, rfl, hq, h0, he, q⟩ := h
  cases rx
  obtain ⟨t, rfl⟩ := ry
  obtain ⟨its, r, pl, hz⟩ := I.list hq
  obtain ⟨w, ew, rw'⟩ := r.get he
  have hl := r.length
  have hn := line63
  have hlt : i.toNat < xs.length := (List.getElem?_eq_some_iff.mp he).1
  exact wpAny_getItem_list pl.isList h0 (by omega) (by simpa using ew) ⟨z, H, I, rw', q⟩
/-- sum(xss, zs): a list of one list and more, and a list to begin with -/
def rSumL (K : PySem.W.Frag) : List V → Hp → VK → Prop := fun vs H Q => ∃ (a z : Addr) (ls : List Addr) (xss : List (List V)) (zs : List V), vs = [V.ref a, V.ref z] ∧ H a = some (.lst (ls.map V.ref)) ∧ H z = some (.lst zs) ∧
  Paired (fun l xs => H l = some (.lst xs)) ls xss ∧ ls ≠ [] ∧ zs.length + xss.flatten.length ≤ sizeLine ∧ ∀ p, H p = none → Q (.ref p) (upd H p (.lst (zs ++ xss.flatten)))
theorem paired_at {α β : Type} {R : α → β → Prop} : ∀ {xs : List α} {ys : List β}, Paired R xs ys → ∀ (i : Nat) (x : α), xs[i]? = some x → ∃ y, ys[i]? = some y ∧ R x y
  | _, _, .nil, i, x, h => by simp at h
  | _, _, .cons r t, 0, x, h => by simp at h; subst h; exact ⟨_, rfl, r⟩
  | _, _, .cons r t, i + 1, x, h => by
    obtain ⟨y, e, q⟩ := paired_at t i x (by simpa using h)
    exact ⟨y, by simpa using e, q⟩
/-- the items of the list object at a -/
def seqAt (h : Heap) (a : Addr) : Array Value := match h.get? a with
  | some ⟨_, _, .seq xs _, _⟩ => xs
  | _ => #[]
theorem vals_cat {X : Cx} {pins : List (Addr × Obj)} {σ : St} {H : Hp} {s : Shared} (I : Inv X pins σ H s) : ∀ {ls : List Addr} {xss : List (List V)} (f : Nat → Addr) (i : Nat), Paired (fun l xs => H l = some (.lst xs)) ls xss → (∀ j a, ls[j]? = some a → f (i + j) = a) →
    Vals xss.flatten (catFrom (fun j => seqAt s.heap (f j)) i ls.length).toList
  | _, _, f, i, .nil, _ => .nil
  | _, _, f, i, .cons (a := l) (b := xs) (l₁ := ls) (l₂ := xss) r t, h => by
    obtain ⟨z, its, n, rv, hl, e⟩ := I.lstM r
    have e0 : f i = l := h 0 l rfl
    have es : seqAt s.heap (f i) = its.toArray := by
      unfold seqAt
      rw [e0, e]
    have ih := vals_cat I f (i + 1) t fun j a ha => by rw [show i + 1 + j = i + (j + 1) by omega]; exact h (j + 1) a (by simpa using ha)
    show Vals (xs ++ xss.flatten) (seqAt s.heap (f i) ++ catFrom (fun j => seqAt s.heap (f j)) (i + 1) ls.length).toList
    rw [es, Array.toList_append]
    exact rv.append ih
theorem vals_refs : ∀ {ls : List Addr} {us : List Value}, Vals (ls.map V.ref) us → us = ls.map Value.ref
  | [], _, .nil => rfl
  | l :: ls, _, .cons r t => by
    rw [vals_refs t]
    cases r
    rfl
theorem cr_sumL (hc : X.calm = true) : CallR X (.builtin "sum") (rSumL X.K) := by
  intro pins s σ H vs us Q I r h
  obtain ⟨a, z, ls, xss, zs, rfl, ha, hz, hp, hne, hsz, q⟩ := h
  obtain ⟨u1, u2, rfl, r1, r2⟩ := Vals.two r
  cases (show u1 = Value.ref a from r1)
  cases (show u2 = Value.ref z from r2)
  obtain ⟨_, its, n, rv, hl, e⟩ := I.lstM ha
  obtain ⟨_, itz, nz, rz, hlz, ez⟩ := I.lstM hz
  have ei := vals_refs rv
  subst ei
  have hlen : (ls.map Value.ref).toArray.size = ls.length := by simp
  have hcat := vals_cat I (fun j => ls.getD j 0) 0 hp (fun j b hb => by
    show ls.getD (0 + j) 0 = b
    rw [Nat.zero_add, List.getD_eq_getElem?_getD, hb]
    rfl)
  have hcl := hcat.length
  refine call_sum_lists (items := (ls.map Value.ref).toArray) (zi := itz.toArray) (fun j => ls.getD j 0) (fun j => seqAt s.heap (ls.getD j 0)) (I.ok.hd hc) e ez (fun i v hv => ?_) (fun j hj => ?_) ?_ ?_ fun h' tk p n' hk hp' hr => ?_
  · have hv' : (ls.map Value.ref)[i]? = some v := by simpa using hv
    rw [List.getElem?_map] at hv'
    obtain ⟨b, hb, rfl⟩ := Option.map_eq_some_iff.mp hv'
    rw [List.getD_eq_getElem?_getD, hb]
    rfl
  · rw [hlen] at hj
    have hb : ls[j]? = some ls[j] := List.getElem?_eq_getElem hj
    obtain ⟨ys, _, hy⟩ := paired_at hp j _ hb
    obtain ⟨_, itj, nj, _, _, ej⟩ := I.lstM hy
    refine ⟨nj, ?_⟩
    have : ls.getD j 0 = ls[j] := by rw [List.getD_eq_getElem?_getD, hb]; rfl
    rw [this, ej]
    unfold seqAt
    rw [ej]
  · rw [hlen]
    cases ls with
    | nil => exact absurd rfl hne
    | cons => simp
  · rw [hlen]
    simp only [List.size_toArray]
    have : (catFrom (fun j => seqAt s.heap (ls.getD j 0)) 0 ls.length).size = xss.flatten.length := (hcl.trans Array.length_toList).symm
    omega
  · rw [hlen] at hr
    have hv : Vals (zs ++ xss.flatten) (itz ++ (catFrom (fun j => seqAt s.heap (ls.getD j 0)) 0 ls.length).toList) := rz.append hcat
    refine ⟨.ref p, upd H p (.lst (zs ++ xss.flatten)), I.laid hk hp' ⟨by rw [List.length_append]; exact hsz, _, n', hv, ?_⟩, rfl, q p (I.hok.fresh hp')⟩
    rw [hr]
    congr 3
    apply Array.ext'
    simp
end
end L2

namespace Sw
/-! ties as (one, other, price); directed edges likewise: (a, b, c): from a one goes to b for c -/
abbrev T3 := Nat × Nat × Nat
/-- a way from v to the goal g with k steps for c -/
inductive Way (E : List T3) (g : Nat) : Nat → Nat → Nat → Prop
  | nil : Way E g g 0 0
  | cons {a b p k c : Nat} : (a, b, p) ∈ E → Way E g b k c → Way E g a (k + 1) (p + c)
abbrev Dist := List (Option Nat)
def at? (d : Dist) (v : Nat) : Option Nat := (d[v]?).getD none
/-- one relaxing -/
def relax (d : Dist) (e : T3) : Dist :=
  match at? d e.2.1 with
  | none => d
  | some y => match at? d e.1 with
    | none => d.set e.1 (some (y + e.2.2))
    | some x => if y + e.2.2 < x then d.set e.1 (some (y + e.2.2)) else d
def roundOf (L : List T3) (d : Dist) : Dist := L.foldl relax d
def start (n g : Nat) : Dist := (List.replicate n none).set g (some 0)
def rounds (L : List T3) : Nat → Dist → Dist
  | 0, d => d
  | k + 1, d => rounds L k (roundOf L d)
theorem relax_len (d : Dist) (e : T3) : (relax d e).length = d.length := by
  unfold relax
  split
  · rfl
  · split
    · simp
    · split <;> simp
theorem round_len (L : List T3) : ∀ d, (roundOf L d).length = d.length := by
  induction L with
  | nil => intro d; rfl
  | cons e L ih => intro d; show (roundOf L (relax d e)).length = _; rw [ih, relax_len]
theorem at_set (d : Dist) (v u : Nat) (x : Option Nat) (h : v < d.length) : at? (d.set v x) u = if u = v then x else at? d u := by
  unfold at?
  rw [List.getElem?_set]
  by_cases e : v = u
  · subst e; simp [h]
  · simp [e, Ne.symm e]
/-- le on Option with none the top -/
def Le (x y : Option Nat) : Prop := ∀ c, y = some c → ∃ c', x = some c' ∧ c' ≤ c
theorem Le.refl (x : Option Nat) : Le x x := fun c h => ⟨c, h, Nat.le_refl _⟩
theorem Le.trans {x y z : Option Nat} (h : Le x y) (h' : Le y z) : Le x z := fun c e => by
  obtain ⟨c1, e1, l1⟩ := h' c e
  obtain ⟨c2, e2, l2⟩ := h c1 e1
  exact ⟨c2, e2, Nat.le_trans l2 l1⟩
theorem relax_le (d : Dist) (e : T3) (hl : e.1 < d.length) (v : Nat) : Le (at? (relax d e) v) (at? d v) := by
  unfold relax
  split
  · exact Le.refl _
  · rename_i y hy
    split
    · rename_i hx
      rw [at_set _ _ _ _ hl]
      split
      · rename_i ev; subst ev; intro c hc; rw [hx] at hc; cases hc
      · exact Le.refl _
    · rename_i x hx
      split
      · rename_i lt
        rw [at_set _ _ _ _ hl]
        split
        · rename_i ev; subst ev; intro c hc; rw [hx] at hc; cases hc; exact ⟨_, rfl, Nat.le_of_lt lt⟩
        · exact Le.refl _
      · exact Le.refl _
theorem relax_does (d : Dist) (e : T3) (hl : e.1 < d.length) {y : Nat} (hy : at? d e.2.1 = some y) : Le (at? (relax d e) e.1) (some (y + e.2.2)) := by
  unfold relax
  rw [hy]
  simp only
  split
  · rw [at_set _ _ _ _ hl, if_pos rfl]; exact Le.refl _
  · rename_i x hx
    split
    · rw [at_set _ _ _ _ hl, if_pos rfl]; exact Le.refl _
    · rename_i nl
      intro c hc; cases hc; exact ⟨x, hx, by omega⟩
theorem round_le (L : List T3) : ∀ (d : Dist), (∀ e ∈ L, e.1 < d.length) → ∀ v, Le (at? (roundOf L d) v) (at? d v) := by
  induction L with
  | nil => intro d _ v; exact Le.refl _
  | cons e L ih =>
    intro d h v
    have h1 := relax_le d e (h e List.mem_cons_self) v
    have h2 := ih (relax d e) (fun e' m => by rw [relax_len]; exact h e' (List.mem_cons_of_mem _ m)) v
    exact Le.trans h2 h1
theorem round_does (L : List T3) : ∀ (d : Dist), (∀ e ∈ L, e.1 < d.length) → ∀ e ∈ L, ∀ y, at? d e.2.1 = some y → Le (at? (roundOf L d) e.1) (some (y + e.2.2)) := by
  induction L with
  | nil => intro d _ e m; cases m
  | cons e0 L ih =>
    intro d h e m y hy
    have hr : ∀ e ∈ L, e.1 < (relax d e0).length := fun e' m => by rw [relax_len]; exact h e' (List.mem_cons_of_mem _ m)
    have h1 := relax_le d e0 (h e0 List.mem_cons_self)
    rcases List.mem_cons.mp m with q | q
    · subst q
      have := relax_does d e (h e List.mem_cons_self) hy
      exact Le.trans (round_le L _ hr e.1) this
    · obtain ⟨y', e1, l1⟩ := h1 e.2.1 y hy
      obtain h2 := ih (relax d e0) hr e q y' e1
      intro c hc
      cases hc
      obtain ⟨c', e2, l2⟩ := h2 _ rfl
      exact ⟨c', e2, by omega⟩
/-- soundness -/
def Sound (E : List T3) (g : Nat) (d : Dist) : Prop := ∀ v c, at? d v = some c → ∃ k, Way E g v k c
theorem relax_sound {E : List T3} {g : Nat} {d : Dist} {e : T3} (he : e ∈ E) (hl : e.1 < d.length) (s : Sound E g d) : Sound E g (relax d e) := by
  intro v c hv
  unfold relax at hv
  split at hv
  · exact s v c hv
  · rename_i y hy
    obtain ⟨k, wk⟩ := s _ _ hy
    have ws : ∃ k, Way E g e.1 k (y + e.2.2) := ⟨k + 1, by rw [Nat.add_comm y]; exact Way.cons he wk⟩
    split at hv
    · rw [at_set _ _ _ _ hl] at hv
      split at hv
      · rename_i ev; subst ev; cases hv; exact ws
      · exact s v c hv
    · split at hv
      · rw [at_set _ _ _ _ hl] at hv
        split at hv
        · rename_i ev; subst ev; cases hv; exact ws
        · exact s v c hv
      · exact s v c hv
theorem round_sound {E : List T3} {g : Nat} (L : List T3) : ∀ (d : Dist), (∀ e ∈ L, e ∈ E) → (∀ e ∈ L, e.1 < d.length) → Sound E g d → Sound E g (roundOf L d) := by
  induction L with
  | nil => intro d _ _ s; exact s
  | cons e L ih =>
    intro d h1 h2 s
    exact ih (relax d e) (fun e' m => h1 e' (List.mem_cons_of_mem _ m)) (fun e' m => by rw [relax_len]; exact h2 e' (List.mem_cons_of_mem _ m)) (relax_sound (h1 e List.mem_cons_self) (h2 e List.mem_cons_self) s)
/-- below every way of at most k steps -/
def Below (E : List T3) (g k : Nat) (d : Dist) : Prop := ∀ v j c, j ≤ k → Way E g v j c → Le (at? d v) (some c)
theorem round_below {E : List T3} {g k : Nat} (L : List T3) (d : Dist) (h1 : ∀ e ∈ E, e ∈ L) (h2 : ∀ e ∈ L, e.1 < d.length) (b : Below E g k d) : Below E g (k + 1) (roundOf L d) := by
  intro v j c hj w
  cases w with
  | nil => exact Le.trans (round_le L d h2 _) (b _ 0 0 (Nat.zero_le _) Way.nil)
  | @cons _ u p j' c' he w' =>
    obtain ⟨y, e1, l1⟩ := b u j' c' (by omega) w' _ rfl
    obtain ⟨z, e2, l2⟩ := round_does L d h2 _ (h1 _ he) y e1 _ rfl
    intro c2 hc2
    cases hc2
    refine ⟨z, e2, ?_⟩
    simp only at l2
    omega
theorem rounds_len (L : List T3) : ∀ k d, (rounds L k d).length = d.length := by
  intro k
  induction k with
  | zero => intro d; rfl
  | succ k ih => intro d; show (rounds L k (roundOf L d)).length = _; rw [ih, round_len]
theorem rounds_ok {E : List T3} {g : Nat} (L : List T3) (h0 : ∀ e, e ∈ E ↔ e ∈ L) : ∀ (k j : Nat) (d : Dist), (∀ e ∈ L, e.1 < d.length) → Sound E g d → Below E g j d → Sound E g (rounds L k d) ∧ Below E g (j + k) (rounds L k d) := by
  intro k
  induction k with
  | zero => intro j d _ s b; exact ⟨s, b⟩
  | succ k ih =>
    intro j d h s b
    have := ih (j + 1) (roundOf L d) (fun e m => by rw [round_len]; exact h e m) (round_sound L d (fun e m => (h0 e).mpr m) h s) (round_below L d (fun e m => (h0 e).mp m) h b)
    rw [show j + (k + 1) = j + 1 + k by omega]
    exact this
theorem rounds_succ (L : List T3) : ∀ k d, rounds L (k + 1) d = roundOf L (rounds L k d) := by
  intro k
  induction k with
  | zero => intro d; rfl
  | succ k ih => intro d; show rounds L (k + 1) (roundOf L d) = _; rw [ih]; rfl
/-! a way without a house twice -/
/-- no more than n different numbers below n -/
theorem nodup_le : ∀ (n : Nat) (l : List Nat), l.Nodup → (∀ x ∈ l, x < n) → l.length ≤ n := by
  intro n
  induction n with
  | zero =>
    intro l _ h
    cases l with
    | nil => simp
    | cons a l => exact absurd (h a List.mem_cons_self) (by omega)
  | succ n ih =>
    intro l nd h
    have h1 := ih (l.erase n) (nd.erase _) (fun x m => by
      have := h x (List.mem_of_mem_erase m)
      have hne : x ≠ n := fun q => by
        subst q
        exact (List.Nodup.not_mem_erase nd) m
      omega)
    have h2 : l.length ≤ (l.erase n).length + 1 := by
      rw [List.length_erase]
      split <;> omega
    omega
/-- the houses of a way (the goal left out) -/
inductive WayL (E : List T3) (g : Nat) : Nat → List Nat → Nat → Prop
  | nil : WayL E g g [] 0
  | cons {a b p c : Nat} {l : List Nat} : (a, b, p) ∈ E → WayL E g b l c → WayL E g a (a :: l) (p + c)
theorem Way.toL {E : List T3} {g v k c : Nat} (w : Way E g v k c) : ∃ l, WayL E g v l c ∧ l.length = k := by
  induction w with
  | nil => exact ⟨[], .nil, rfl⟩
  | cons he _ ih => obtain ⟨l, w, e⟩ := ih; exact ⟨_, .cons he w, by simp [e]⟩
theorem WayL.toW {E : List T3} {g v c : Nat} {l : List Nat} (w : WayL E g v l c) : Way E g v l.length c := by
  induction w with
  | nil => exact .nil
  | cons he _ ih => exact .cons he ih
/-- from a house on the way on -/
theorem WayL.from {E : List T3} {g v c : Nat} {l : List Nat} (w : WayL E g v l c) (nd : l.Nodup) : ∀ u ∈ l, ∃ l' c', WayL E g u l' c' ∧ c' ≤ c ∧ l'.Nodup ∧ ∀ x ∈ l', x ∈ l := by
  induction w with
  | nil => intro u m; cases m
  | @cons a b p c l he w ih =>
    intro u m
    rcases List.mem_cons.mp m with q | q
    · subst q; exact ⟨_, _, .cons he w, Nat.le_refl _, nd, fun x m => m⟩
    · obtain ⟨l', c', w', le, nd', sub⟩ := ih (List.nodup_cons.mp nd).2 u q
      exact ⟨l', c', w', by omega, nd', fun x m => List.mem_cons_of_mem _ (sub x m)⟩
theorem WayL.simple {E : List T3} {g v c : Nat} {l : List Nat} (w : WayL E g v l c) : ∃ l' c', WayL E g v l' c' ∧ c' ≤ c ∧ l'.Nodup ∧ g ∉ l' := by
  induction w with
  | nil => exact ⟨[], 0, .nil, Nat.le_refl _, List.nodup_nil, by simp⟩
  | @cons a b p c l he w ih =>
    obtain ⟨l', c', w', le, nd, ng⟩ := ih
    by_cases hg : a = g
    · subst hg; exact ⟨[], 0, .nil, Nat.zero_le _, List.nodup_nil, by simp⟩
    · by_cases ha : a ∈ l'
      · obtain ⟨l2, c2, w2, le2, nd2, sub⟩ := w'.from nd a ha
        exact ⟨l2, c2, w2, by omega, nd2, fun m => ng (sub _ m)⟩
      · exact ⟨a :: l', p + c', .cons he w', by omega, List.nodup_cons.mpr ⟨ha, nd⟩, fun m => by
          rcases List.mem_cons.mp m with q | q
          · exact hg q.symm
          · exact ng q⟩
theorem WayL.lt {E : List T3} {g v c n : Nat} {l : List Nat} (w : WayL E g v l c) (hE : ∀ e ∈ E, e.1 < n) : ∀ x ∈ l, x < n := by
  induction w with
  | nil => intro x m; cases m
  | cons he _ ih =>
    intro x m
    rcases List.mem_cons.mp m with q | q
    · subst q; exact hE _ he
    · exact ih x q
theorem way_short {E : List T3} {g v k c n : Nat} (hE : ∀ e ∈ E, e.1 < n) (w : Way E g v k c) : ∃ k' c', k' ≤ n ∧ c' ≤ c ∧ Way E g v k' c' := by
  obtain ⟨l, wl, _⟩ := w.toL
  obtain ⟨l', c', w', le, nd, _⟩ := wl.simple
  exact ⟨l'.length, c', nodup_le n l' nd (w'.lt hE), le, w'.toW⟩
/-- what the list of least prices is -/
structure IsFar (E : List T3) (n g : Nat) (d : Dist) : Prop where
  len : d.length = n
  way : Sound E g d
  least : ∀ v k c, Way E g v k c → Le (at? d v) (some c)
theorem start_at (n g v : Nat) (hg : g < n) : at? (start n g) v = if v = g then some 0 else none := by
  unfold start
  rw [at_set _ _ _ _ (by simpa using hg)]
  split
  · rfl
  · unfold at?
    rw [List.getElem?_replicate]
    split <;> rfl
theorem far_is {E : List T3} {n g : Nat} (L : List T3) (h0 : ∀ e, e ∈ E ↔ e ∈ L) (hE : ∀ e ∈ E, e.1 < n) (hg : g < n) : IsFar E n g (rounds L n (start n g)) := by
  have hs : (start n g).length = n := by simp [start]
  have h := rounds_ok (E := E) (g := g) L h0 n 0 (start n g) (fun e m => by rw [hs]; exact hE e ((h0 e).mpr m))
    (fun v c h => by
      rw [start_at _ _ _ hg] at h
      split at h
      · rename_i q; subst q; cases h; exact ⟨0, .nil⟩
      · cases h)
    (fun v j c hj w => by
      have : j = 0 := by omega
      subst this
      cases w
      rw [start_at _ _ _ hg, if_pos rfl]
      exact Le.refl _)
  refine ⟨by rw [rounds_len, hs], h.1, fun v k c w => ?_⟩
  obtain ⟨k', c', hk, hc, w'⟩ := way_short hE w
  obtain ⟨z, e, l⟩ := h.2 v k' c' (by omega) w' _ rfl
  intro c2 e2
  cases e2
  exact ⟨z, e, by omega⟩
theorem far_one {E : List T3} {n g : Nat} {d d' : Dist} (h : IsFar E n g d) (h' : IsFar E n g d') : d = d' := by
  have key : ∀ v, at? d v = at? d' v := fun v => by
    cases e : at? d v with
    | none =>
      cases e' : at? d' v with
      | none => rfl
      | some c' =>
        obtain ⟨k, w⟩ := h'.way _ _ e'
        obtain ⟨z, ez, _⟩ := h.least _ _ _ w _ rfl
        rw [e] at ez; cases ez
    | some c =>
      obtain ⟨k, w⟩ := h.way _ _ e
      obtain ⟨z, ez, lz⟩ := h'.least _ _ _ w _ rfl
      obtain ⟨k2, w2⟩ := h'.way _ _ ez
      obtain ⟨z2, ez2, lz2⟩ := h.least _ _ _ w2 _ rfl
      rw [e] at ez2; cases ez2
      rw [ez]
      congr 1
      omega
  refine List.ext_getElem? fun i => ?_
  by_cases hi : i < n
  · have a1 : i < d.length := by rw [h.len]; exact hi
    have a2 : i < d'.length := by rw [h'.len]; exact hi
    have := key i
    unfold at? at this
    rw [List.getElem?_eq_getElem a1, List.getElem?_eq_getElem a2] at this ⊢
    simpa using this
  · rw [List.getElem?_eq_none (by rw [h.len]; omega), List.getElem?_eq_none (by rw [h'.len]; omega)]
theorem far_cong {E E' : List T3} {n g : Nat} {d : Dist} (he : ∀ e, e ∈ E ↔ e ∈ E') (h : IsFar E n g d) : IsFar E' n g d := by
  have tr : ∀ {A B : List T3}, (∀ e, e ∈ A → e ∈ B) → ∀ {v k c}, Way A g v k c → Way B g v k c := by
    intro A B hs v k c w
    induction w with
    | nil => exact .nil
    | cons m _ ih => exact .cons (hs _ m) ih
  exact ⟨h.len, fun v c e => by obtain ⟨k, w⟩ := h.way v c e; exact ⟨k, tr (fun e m => (he e).mp m) w⟩, fun v k c w => h.least v k c (tr (fun e m => (he e).mpr m) w)⟩
end Sw
namespace Sw
/-- u is a next house of h: just so much nearer -/
def Cand (E : List T3) (d : Dist) (h u : Nat) : Prop := ∃ c y, (h, u, c) ∈ E ∧ at? d u = some y ∧ at? d h = some (y + c)
def IsNext (E : List T3) (d : Dist) (g h : Nat) : Option Nat → Prop
  | none => h = g ∨ at? d h = none
  | some u => h ≠ g ∧ at? d h ≠ none ∧ Cand E d h u ∧ ∀ v, Cand E d h v → u ≤ v
theorem next_one {E : List T3} {d : Dist} {g h : Nat} : ∀ {x y : Option Nat}, IsNext E d g h x → IsNext E d g h y → x = y
  | none, none, _, _ => rfl
  | none, some u, h1, h2 => by
    rcases h1 with q | q
    · exact absurd q h2.1
    · exact absurd q h2.2.1
  | some u, none, h1, h2 => by
    rcases h2 with q | q
    · exact absurd q h1.1
    · exact absurd q h1.2.1
  | some u, some v, h1, h2 => by
    have a := h1.2.2.2 v h2.2.2.1
    have b := h2.2.2.2 u h1.2.2.1
    rw [Nat.le_antisymm a b]
theorem cand_cong {E E' : List T3} (he : ∀ e, e ∈ E ↔ e ∈ E') {d : Dist} {h u : Nat} : Cand E d h u ↔ Cand E' d h u :=
  ⟨fun ⟨c, y, a, b⟩ => ⟨c, y, (he _).mp a, b⟩, fun ⟨c, y, a, b⟩ => ⟨c, y, (he _).mpr a, b⟩⟩
theorem next_cong {E E' : List T3} (he : ∀ e, e ∈ E ↔ e ∈ E') {d : Dist} {g h : Nat} : ∀ {x : Option Nat}, IsNext E d g h x → IsNext E' d g h x
  | none, a => a
  | some u, a => ⟨a.1, a.2.1, (cand_cong he).mp a.2.2.1, fun v hv => a.2.2.2 v ((cand_cong he).mpr hv)⟩
theorem far_goal {E : List T3} {n g : Nat} {d : Dist} (f : IsFar E n g d) : at? d g = some 0 := by
  obtain ⟨c, e, l⟩ := f.least g 0 0 .nil 0 rfl
  rw [e]
  congr 1
  omega
theorem cand_ex {E : List T3} {n g h c : Nat} {d : Dist} (f : IsFar E n g d) (hg : h ≠ g) (hc : at? d h = some c) : ∃ u, Cand E d h u := by
  obtain ⟨k, w⟩ := f.way h c hc
  cases w with
  | nil => exact absurd rfl hg
  | @cons _ u p k' c' he w' =>
    obtain ⟨y, ey, ly⟩ := f.least u k' c' w' _ rfl
    obtain ⟨k2, w2⟩ := f.way u y ey
    obtain ⟨z, ez, lz⟩ := f.least h (k2 + 1) (p + y) (.cons he w2) _ rfl
    rw [hc] at ez
    cases ez
    refine ⟨u, p, y, he, ey, ?_⟩
    rw [hc]
    congr 1
    omega
theorem near_some {E : List T3} {n g h u c : Nat} {d : Dist} (f : IsFar E n g d) (hs : ∀ a b c, (a, b, c) ∈ E → (b, a, c) ∈ E) (he : (h, u, c) ∈ E) (hh : at? d h ≠ none) : ∃ y, at? d u = some y := by
  cases e : at? d h with
  | none => exact absurd e hh
  | some z =>
    obtain ⟨k, w⟩ := f.way h z e
    obtain ⟨y, ey, _⟩ := f.least u (k + 1) (c + z) (.cons (hs _ _ _ he) w) _ rfl
    exact ⟨y, ey⟩
/-- whether a neighbour (house, price) is just so much nearer -/
def test (d : Dist) (h : Nat) (q : Nat × Nat) : Bool := match at? d q.1 with
  | some y => decide (at? d h = some (y + q.2))
  | none => false
def candL (d : Dist) (h : Nat) (L : List (Nat × Nat)) : List Nat := (L.filter (test d h)).map (·.1)
theorem candL_mem {E : List T3} {d : Dist} {h : Nat} {L : List (Nat × Nat)} (hL : ∀ u c, (u, c) ∈ L ↔ (h, u, c) ∈ E) (u : Nat) : u ∈ candL d h L ↔ Cand E d h u := by
  unfold candL
  rw [List.mem_map]
  constructor
  · rintro ⟨q, hq, rfl⟩
    obtain ⟨m, t⟩ := List.mem_filter.mp hq
    unfold test at t
    cases e : at? d q.1 with
    | none => rw [e] at t; cases t
    | some y =>
      rw [e] at t
      exact ⟨q.2, y, (hL _ _).mp m, e, of_decide_eq_true t⟩
  · rintro ⟨c, y, m, e, t⟩
    refine ⟨(u, c), List.mem_filter.mpr ⟨(hL _ _).mpr m, ?_⟩, rfl⟩
    unfold test
    rw [e]
    exact decide_eq_true t
def nbr (ts : List T3) (h : Nat) : List (Nat × Nat) := ts.flatMap fun e => (if e.1 = h then [(e.2.1, e.2.2)] else []) ++ (if e.2.1 = h then [(e.1, e.2.2)] else [])
theorem nbr_mem (ts : List T3) (h u c : Nat) : (u, c) ∈ nbr ts h ↔ ((h, u, c) ∈ ts ∨ (u, h, c) ∈ ts) := by
  unfold nbr
  rw [List.mem_flatMap]
  constructor
  · rintro ⟨⟨a, b, p⟩, m, q⟩
    rcases List.mem_append.mp q with q | q
    · split at q
      · rename_i e; simp at q e; obtain ⟨rfl, rfl⟩ := q; subst e; exact .inl m
      · cases q
    · split at q
      · rename_i e; simp at q e; obtain ⟨rfl, rfl⟩ := q; subst e; exact .inr m
      · cases q
  · rintro (m | m)
    · exact ⟨_, m, by simp⟩
    · exact ⟨_, m, by simp⟩
theorem nbr_snoc (ts : List T3) (e : T3) (h : Nat) : nbr (ts ++ [e]) h = nbr ts h ++ ((if e.1 = h then [(e.2.1, e.2.2)] else []) ++ (if e.2.1 = h then [(e.1, e.2.2)] else [])) := by
  unfold nbr
  rw [List.flatMap_append]
  simp
theorem nbr_len (ts : List T3) (h : Nat) : (nbr ts h).length ≤ 2 * ts.length := by
  induction ts with
  | nil => simp [nbr]
  | cons e ts ih =>
    have : nbr (e :: ts) h = ((if e.1 = h then [(e.2.1, e.2.2)] else []) ++ (if e.2.1 = h then [(e.1, e.2.2)] else [])) ++ nbr ts h := rfl
    rw [this, List.length_append, List.length_append]
    have h1 : (if e.1 = h then [(e.2.1, e.2.2)] else []).length ≤ 1 := by split <;> simp
    have h2 : (if e.2.1 = h then [(e.1, e.2.2)] else []).length ≤ 1 := by split <;> simp
    simp only [List.length_cons]
    omega
theorem candL_snoc (d : Dist) (h : Nat) (L : List (Nat × Nat)) (q : Nat × Nat) : candL d h (L ++ [q]) = candL d h L ++ (if test d h q = true then [q.1] else []) := by
  unfold candL
  rw [List.filter_append, List.map_append]
  congr 1
  simp only [List.filter_cons, List.filter_nil]
  split <;> rfl
theorem candL_len (d : Dist) (h : Nat) (L : List (Nat × Nat)) : (candL d h L).length ≤ L.length := by
  unfold candL
  rw [List.length_map]
  exact List.length_filter_le _ _
end Sw
namespace Sw
def fl1 (ts : List T3) (h : Nat) : List (Nat × Nat) := ts.flatMap fun e => if e.1 = h then [(e.2.1, e.2.2)] else []
def fl2 (ts : List T3) (h : Nat) : List (Nat × Nat) := ts.flatMap fun e => if e.2.1 = h then [(e.1, e.2.2)] else []
theorem fl1_snoc (ts : List T3) (e : T3) (h : Nat) : fl1 (ts ++ [e]) h = fl1 ts h ++ (if e.1 = h then [(e.2.1, e.2.2)] else []) := by
  unfold fl1; rw [List.flatMap_append]; simp
theorem fl2_snoc (ts : List T3) (e : T3) (h : Nat) : fl2 (ts ++ [e]) h = fl2 ts h ++ (if e.2.1 = h then [(e.1, e.2.2)] else []) := by
  unfold fl2; rw [List.flatMap_append]; simp
theorem fl_mem (ts : List T3) (h u c : Nat) : (u, c) ∈ fl1 ts h ++ fl2 ts h ↔ ((h, u, c) ∈ ts ∨ (u, h, c) ∈ ts) := by
  rw [List.mem_append]
  unfold fl1 fl2
  rw [List.mem_flatMap, List.mem_flatMap]
  constructor
  · rintro (⟨⟨a, b, p⟩, m, q⟩ | ⟨⟨a, b, p⟩, m, q⟩)
    · split at q
      · rename_i e; simp at q e; obtain ⟨rfl, rfl⟩ := q; subst e; exact .inl m
      · cases q
    · split at q
      · rename_i e; simp at q e; obtain ⟨rfl, rfl⟩ := q; subst e; exact .inr m
      · cases q
  · rintro (m | m)
    · exact .inl ⟨_, m, by simp⟩
    · exact .inr ⟨_, m, by simp⟩
theorem fl1_len (ts : List T3) (h : Nat) : (fl1 ts h).length ≤ ts.length := by
  induction ts with
  | nil => simp [fl1]
  | cons e ts ih =>
    have : fl1 (e :: ts) h = (if e.1 = h then [(e.2.1, e.2.2)] else []) ++ fl1 ts h := rfl
    rw [this, List.length_append]
    have h1 : (if e.1 = h then [(e.2.1, e.2.2)] else []).length ≤ 1 := by split <;> simp
    simp only [List.length_cons]
    omega
theorem fl2_len (ts : List T3) (h : Nat) : (fl2 ts h).length ≤ ts.length := by
  induction ts with
  | nil => simp [fl2]
  | cons e ts ih =>
    have : fl2 (e :: ts) h = (if e.2.1 = h then [(e.1, e.2.2)] else []) ++ fl2 ts h := rfl
    rw [this, List.length_append]
    have h1 : (if e.2.1 = h then [(e.1, e.2.2)] else []).length ≤ 1 := by split <;> simp
    simp only [List.length_cons]
    omega
end Sw
namespace Sw
/-- the told way, house by house -/
inductive WayTo (E : List T3) (d : Dist) (g : Nat) : Nat → List Nat → Prop
  | here : WayTo E d g g [g]
  | step {h u : Nat} {l : List Nat} : IsNext E d g h (some u) → WayTo E d g u l → WayTo E d g h (h :: l)
theorem wayto_one {E : List T3} {d : Dist} {g h : Nat} {l l' : List Nat} (a : WayTo E d g h l) (b : WayTo E d g h l') : l = l' := by
  induction a generalizing l' with
  | here =>
    cases b with
    | here => rfl
    | step i _ => exact absurd rfl i.1
  | step i _ ih =>
    cases b with
    | here => exact absurd rfl i.1
    | step j r =>
      have e := next_one i j
      cases e
      rw [ih r]
theorem way_cost {E : List T3} {g v k c : Nat} (h : ∀ e ∈ E, e.2.2 ≤ 9) (w : Way E g v k c) : c ≤ 9 * k := by
  induction w with
  | nil => exact Nat.le_refl _
  | cons he _ ih =>
    have := h _ he
    simp only at this
    omega
theorem far_small {E : List T3} {n g v c : Nat} {d : Dist} (f : IsFar E n g d) (hE : ∀ e ∈ E, e.1 < n) (h9 : ∀ e ∈ E, e.2.2 ≤ 9) (e : at? d v = some c) : c ≤ 9 * n := by
  obtain ⟨k, w⟩ := f.way v c e
  obtain ⟨k', c', hk, hc, w'⟩ := way_short hE w
  obtain ⟨z, ez, lz⟩ := f.least v k' c' w' _ rfl
  rw [e] at ez
  cases ez
  have := way_cost h9 w'
  have : 9 * k' ≤ 9 * n := Nat.mul_le_mul_left 9 hk
  omega
/-- all houses that a list of prices reaches, rising -/
def lotOf (n : Nat) (d : Dist) : List Nat := (List.range n).filter fun h => (at? d h).isSome
end Sw

namespace K
open PySem PySem.Spec PyProof.Rows L2
/-- all but p stands as it stood -/
def But (p : Addr) (H H' : Hp) : Prop := ∀ b o, H b = some o → b ≠ p → H' b = some o
theorem But.refl (p : Addr) (H : Hp) : But p H H := fun _ _ e _ => e
theorem But.trans {p : Addr} {H H1 H2 : Hp} (a : But p H H1) (b : But p H1 H2) : But p H H2 := fun c o e hc => b c o (a c o e hc) hc
theorem But.of_same {p : Addr} {H H' : Hp} (s : Same H H') : But p H H' := fun b o e _ => s b o e
theorem But.put {p : Addr} {H : Hp} {o : HO} : But p H (upd H p o) := fun b u e hb => by rw [upd_ne hb]; exact e
theorem same_upd {H : Hp} {p : Addr} {o : HO} (h : H p = none) : Same H (upd H p o) := fun b x e => by
  rw [upd_ne (ne_of_none e h)]
  exact e
/-- the box of the draws at p, its list of cells at q -/
def BoxAt (H : Hp) (p q : Addr) : Prop := ∃ (ns : List Int) (i t s : Int), H p = some (.lst [.ref q, .int i, .int t, .int s]) ∧ H q = some (.lst (ns.map V.int)) ∧ 0 ≤ i ∧ i ≤ ns.length ∧ 0 ≤ s ∧ s < 2147483549 ∧ ns.length ≤ 63
theorem BoxAt.ne {H : Hp} {p q : Addr} (h : BoxAt H p q) : p ≠ q := by
  obtain ⟨ns, i, t, s, h1, h2, _⟩ := h
  refine ne_of h1 h2 fun e => ?_
  cases ns with
  | nil => cases e
  | cons n ns => injection e with e; injection e with e1 e2; cases e1
theorem BoxAt.at {H H' : Hp} {p q : Addr} (h : BoxAt H p q) (h1 : ∀ o, H p = some o → H' p = some o) (h2 : ∀ o, H q = some o → H' q = some o) : BoxAt H' p q := by
  obtain ⟨ns, i, t, s, e1, e2, r⟩ := h
  exact ⟨ns, i, t, s, h1 _ e1, h2 _ e2, r⟩
theorem BoxAt.same {H H' : Hp} {p q : Addr} (h : BoxAt H p q) (s : Same H H') : BoxAt H' p q := h.at (fun o e => s _ o e) (fun o e => s _ o e)
theorem BoxAt.p_some {H : Hp} {p q : Addr} (h : BoxAt H p q) : ∃ o, H p = some o := by
  obtain ⟨ns, i, t, s, e1, e2, r⟩ := h
  exact ⟨_, e1⟩
theorem BoxAt.q_some {H : Hp} {p q : Addr} (h : BoxAt H p q) : ∃ o, H q = some o := by
  obtain ⟨ns, i, t, s, e1, e2, r⟩ := h
  exact ⟨_, e2⟩
/-- another object than the box's own two is written -/
theorem BoxAt.put {H : Hp} {p q l : Addr} {o : HO} (h : BoxAt H p q) (hp : l ≠ p) (hq : l ≠ q) : BoxAt (upd H l o) p q :=
  h.at (fun o e => by rw [upd_ne (Ne.symm hp)]; exact e) (fun o e => by rw [upd_ne (Ne.symm hq)]; exact e)
theorem BoxAt.putN {H : Hp} {p q l : Addr} {o : HO} (h : BoxAt H p q) (hl : H l = none) : BoxAt (upd H l o) p q := h.same (same_upd hl)
theorem fmod_le {a n : Int} (hn : 0 < n) : 0 ≤ a.fmod n ∧ a.fmod n < n := by
  rw [Int.fmod_eq_emod_of_nonneg _ (Int.le_of_lt hn)]
  exact ⟨Int.emod_nonneg _ (by omega), Int.emod_lt_of_pos _ hn⟩
/-- _law_box(script) -/
def spBox (K : PySem.W.Frag) : Sp := fun vs H Q _ => ∃ (a : Addr) (ns : List Int), vs = [.ref a] ∧ SqL K H a (ns.map V.int) ∧ ns.length ≤ 63 ∧ ∀ (p q : Addr) (H' : Hp), H p = none → H q = none → BoxAt H' p q → Same H H' → Q (.ref p) H'
/-- _law_take(box, sides): a number below sides; the box is a box again -/
def spTake : Sp := fun vs H Q _ => ∃ (p q : Addr) (n : Int), vs = [.ref p, .int n] ∧ BoxAt H p q ∧ 0 < n ∧ n < 1073741824 ∧ ∀ (r : Int) (H' : Hp), 0 ≤ r → r < n → BoxAt H' p q → But p H H' → Q (.int r) H'
theorem atI0 {α : Type} {xs : List α} {i : Int} {v : α} (h0 : 0 ≤ i) (h : xs[i.toNat]? = some v) : atI xs i = some v := by
  have := atI_nat (j := i.toNat) h
  rwa [Int.toNat_of_nonneg h0] at this
end K
namespace K
open PySem PySem.Spec PyProof.Rows L2
/-- None, bools, ints, texts -/
def flat : V → Bool
  | .non | .bl _ | .int _ | .str _ => true
  | _ => false
/-- the same data, of less than n levels -/
def Eqv : Nat → Hp → V → V → Prop
  | 0, _, _, _ => False
  | n + 1, H, x, y => (x = y ∧ flat x = true) ∨ ∃ (a b : Addr) (xs ys : List V), x = .ref a ∧ y = .ref b ∧ ((H a = some (.lst xs) ∧ H b = some (.lst ys)) ∨ (H a = some (.tup xs) ∧ H b = some (.tup ys))) ∧ xs.length = ys.length ∧ xs.length ≤ 1000 ∧
      ∀ (i : Nat) (u v : V), xs[i]? = some u → ys[i]? = some v → Eqv n H u v
theorem Eqv.same {H H' : Hp} (s : Same H H') : ∀ {n : Nat} {x y : V}, Eqv n H x y → Eqv n H' x y
  | n + 1, x, y, h => by
    rcases h with h | ⟨a, b, xs, ys, e1, e2, h, hl, hz, hi⟩
    · exact .inl h
    · refine .inr ⟨a, b, xs, ys, e1, e2, ?_, hl, hz, fun i u v hu hv => (hi i u v hu hv).same s⟩
      rcases h with ⟨h1, h2⟩ | ⟨h1, h2⟩
      · exact .inl ⟨s _ _ h1, s _ _ h2⟩
      · exact .inr ⟨s _ _ h1, s _ _ h2⟩
def spSame (n : Nat) : Sp := fun vs H Q _ => ∃ (x y : V), vs = [x, y] ∧ Eqv n H x y ∧ ∀ H', Same H H' → Q (.bl true) H'
theorem kit2 {K : PySem.W.Frag} {t T U : String} {b c : Bool} (h : kitB t T = some b) (h2 : kitB t U = some c) : PySem.W.kitAny K (.type t) [.type T, .type U] = some (b || c) := by
  refine kitAny_cons (kit_ty h) (fun e => ?_) (fun e => by rw [e]; rfl)
  subst e
  refine kitAny_cons (kit_ty h2) (fun e => ?_) (fun e => by rw [e]; rfl)
  subst e
  exact kitAny_nil
theorem walk_zipTT {K : PySem.W.Frag} {a b : Addr} {xs ys : List V} {n : Nat} (hn : n = min xs.length ys.length) : Walk (RZ.ItzT K a b) n (fun H => SqT K H a xs ∧ SqT K H b ys) (YPair (fun i => xs[i]?) (fun i => ys[i]?)) := by
  subst hn
  refine ⟨fun i _ hi q => ?_, fun _ q => ⟨xs, ys, q.1, q.2, by omega⟩, fun i H v H' _ q y => ?_⟩
  · have h1 : i < xs.length := by omega
    have h2 : i < ys.length := by omega
    exact ⟨xs, ys, xs[i], ys[i], q.1, q.2, by simp [h1], by simp [h2]⟩
  · obtain ⟨T, x, z, h1, h2, h3, h4, h5⟩ := y
    exact ⟨T, x, z, h1, h2, h3, h4 xs q.1, h5 ys q.2⟩
theorem fnok_never {P : Program} {w : World} {K : PySem.W.Frag} {mg : Str → Option Value} {base : Heap} {f : Addr} {fd : FuncData} {ps : List Str} {sp : Sp} {k : Nat} (h : ∀ vs H Q E, ¬ sp vs H Q E) : FnOk P w K mg base CX0 k f fd ps sp :=
  ⟨fun vs H Q E q => (h _ _ _ _ q).elim, fun A outer s H args us vs Q E hr he hb hv hs => (h _ _ _ _ hs).elim⟩
end K
namespace K
open PySem PySem.Spec PyProof.Rows L2
open Sw (T3 Dist at? relax roundOf rounds)
/-- a tie as it stands in a tuple -/
def tv (e : T3) : List V := [.int (e.1 : Nat), .int (e.2.1 : Nat), .int (e.2.2 : Nat)]
/-- a list of ties -/
def TiesAt (H : Hp) (t : Addr) (ts : List T3) : Prop := ∃ as : List Addr, H t = some (.lst (as.map V.ref)) ∧ Paired (fun a e => H a = some (.tup (tv e))) as ts
theorem paired_mono {α β : Type} {R R' : α → β → Prop} (h : ∀ a b, R a b → R' a b) : ∀ {xs : List α} {ys : List β}, Paired R xs ys → Paired R' xs ys
  | _, _, .nil => .nil
  | _, _, .cons r t => .cons (h _ _ r) (paired_mono h t)
theorem paired_len {α β : Type} {R : α → β → Prop} : ∀ {xs : List α} {ys : List β}, Paired R xs ys → xs.length = ys.length
  | _, _, .nil => rfl
  | _, _, .cons r t => by simp [paired_len t]
theorem TiesAt.same {H H' : Hp} {t : Addr} {ts : List T3} (h : TiesAt H t ts) (s : Same H H') : TiesAt H' t ts := by
  obtain ⟨as, h1, h2⟩ := h
  exact ⟨as, s _ _ h1, paired_mono (fun a e q => s _ _ q) h2⟩
/-- a price or None -/
def ov : Option Nat → V
  | none => .non
  | some n => .int (n : Nat)
/-- a list of prices stands at p -/
def DistAt (H : Hp) (p : Addr) (d : Dist) : Prop := H p = some (.lst (d.map ov))
theorem at_of {d : Dist} {v : Nat} (h : v < d.length) : (d.map ov)[v]? = some (ov (at? d v)) := by
  rw [List.getElem?_map, List.getElem?_eq_getElem h]
  unfold at?
  rw [List.getElem?_eq_getElem h]
  rfl
theorem set_ov (d : Dist) (v : Nat) (x : Option Nat) : (d.map ov).set v (ov x) = (d.set v x).map ov := by rw [List.map_set]
theorem ixN_nat {n j : Nat} (h : j < n) : ixN n (j : Int) = some j := by
  unfold ixN
  rw [if_pos (by omega), if_pos (by omega), Int.toNat_natCast]
/-- the ties both ways about, tie by tie -/
def both (ts : List T3) : List T3 := ts.flatMap fun e => [e, (e.2.1, e.1, e.2.2)]
theorem both_mem (ts : List T3) (e : T3) : e ∈ both ts ↔ (e ∈ ts ∨ (e.2.1, e.1, e.2.2) ∈ ts) := by
  unfold both
  rw [List.mem_flatMap]
  constructor
  · rintro ⟨x, hx, m⟩
    simp only [List.mem_cons, List.not_mem_nil, or_false] at m
    rcases m with q | q
    · exact .inl (q ▸ hx)
    · subst q; exact .inr hx
  · rintro (h | h)
    · exact ⟨e, h, by simp⟩
    · exact ⟨_, h, by simp⟩
/-- the least prices, as they are reckoned tie by tie -/
def farD (n : Nat) (ts : List T3) (g : Nat) : Dist := rounds (both ts) n (Sw.start n g)
/-- the ties lie below n -/
def Fits (n : Nat) (ts : List T3) : Prop := ∀ e ∈ ts, e.1 < n ∧ e.2.1 < n
theorem both_lt {n : Nat} {ts : List T3} (h : Fits n ts) : ∀ e ∈ both ts, e.1 < n ∧ e.2.1 < n := fun e m => by
  rcases (both_mem ts e).mp m with q | q
  · exact h e q
  · have := h _ q
    exact ⟨this.2, this.1⟩
theorem farD_is {n g : Nat} {ts : List T3} (h : Fits n ts) (hg : g < n) : Sw.IsFar (both ts) n g (farD n ts g) := Sw.far_is (both ts) (fun _ => Iff.rfl) (fun e m => (both_lt h e m).1) hg
def spCheck : Sp := fun vs H Q _ => ∃ (n g : Nat), vs = [.int (n : Nat), .int (g : Nat)] ∧ g < n ∧ Q .non H
def spCheap : Sp := fun vs H Q _ => ∃ (p : Addr) (d : Dist) (a b c : Nat), vs = [.ref p, .int (a : Nat), .int (b : Nat), .int (c : Nat)] ∧ DistAt H p d ∧ a < d.length ∧ b < d.length ∧ ∀ H', DistAt H' p (relax d (a, b, c)) → But p H H' → Q .non H'
def spFar : Sp := fun vs H Q _ => ∃ (n g : Nat) (t : Addr) (ts : List T3), vs = [.int (n : Nat), .ref t, .int (g : Nat)] ∧ g < n ∧ n ≤ 1000 ∧ TiesAt H t ts ∧ Fits n ts ∧ ∀ p H', H p = none → Same H H' → DistAt H' p (farD n ts g) → Q (.ref p) H'
end K
namespace K
open PySem PySem.Spec PyProof.Rows L2
open Sw (T3 Dist at? relax roundOf rounds)
/-- a row of pairs of houses, below n, the lesser one first -/
def PairsV (H : Hp) (n : Nat) (xs : List V) : Prop := ∃ (as : List Addr) (ps : List (Nat × Nat)), xs = as.map V.ref ∧ Paired (fun a p => H a = some (.tup [.int (p.1 : Nat), .int (p.2 : Nat)])) as ps ∧ ∀ p ∈ ps, p.1 < p.2 ∧ p.2 < n
theorem PairsV.at {H H' : Hp} {n : Nat} {xs : List V} (h : PairsV H n xs) (k : ∀ a ys, H a = some (.tup ys) → H' a = some (.tup ys)) : PairsV H' n xs := by
  obtain ⟨as, ps, e, h1, h2⟩ := h
  exact ⟨as, ps, e, paired_mono (fun a p q => k _ _ q) h1, h2⟩
theorem PairsV.nil {H : Hp} {n : Nat} : PairsV H n [] := ⟨[], [], rfl, .nil, fun p m => by cases m⟩
theorem paired_append {α β : Type} {R : α → β → Prop} : ∀ {xs xs' : List α} {ys ys' : List β}, Paired R xs ys → Paired R xs' ys' → Paired R (xs ++ xs') (ys ++ ys')
  | _, _, _, _, .nil, s => s
  | _, _, _, _, .cons r t, s => .cons r (paired_append t s)
theorem PairsV.append {H : Hp} {n : Nat} {xs ys : List V} (h : PairsV H n xs) (h' : PairsV H n ys) : PairsV H n (xs ++ ys) := by
  obtain ⟨as, ps, rfl, h1, h2⟩ := h
  obtain ⟨as', ps', rfl, h1', h2'⟩ := h'
  refine ⟨as ++ as', ps ++ ps', by rw [List.map_append], paired_append h1 h1', fun p m => ?_⟩
  rcases List.mem_append.mp m with q | q
  · exact h2 p q
  · exact h2' p q
theorem PairsV.one {H : Hp} {n i j : Nat} {a : Addr} (h : H a = some (.tup [.int (i : Nat), .int (j : Nat)])) (h1 : i < j) (h2 : j < n) : PairsV H n [.ref a] :=
  ⟨[a], [(i, j)], rfl, .cons h .nil, fun p m => by simp at m; subst m; exact ⟨h1, h2⟩⟩
theorem PairsV.flat {H : Hp} {n : Nat} : ∀ {xss : List (List V)}, (∀ xs ∈ xss, PairsV H n xs) → PairsV H n xss.flatten
  | [], _ => PairsV.nil
  | xs :: xss, h => (h xs List.mem_cons_self).append (PairsV.flat fun ys m => h ys (List.mem_cons_of_mem _ m))
theorem flat_len {α : Type} {n : Nat} : ∀ {xss : List (List α)}, (∀ xs ∈ xss, xs.length ≤ n) → xss.flatten.length ≤ xss.length * n
  | [], _ => by simp
  | xs :: xss, h => by
    have h1 := h xs List.mem_cons_self
    have h2 := flat_len (xss := xss) fun ys m => h ys (List.mem_cons_of_mem _ m)
    rw [List.flatten_cons, List.length_append, List.length_cons, Nat.succ_mul]
    omega
/-- good ties below n -/
def Good (n : Nat) (ts : List T3) : Prop := ∀ e ∈ ts, e.1 < e.2.1 ∧ e.2.1 < n ∧ 1 ≤ e.2.2 ∧ e.2.2 ≤ 9
theorem Good.fits {n : Nat} {ts : List T3} (h : Good n ts) : Fits n ts := fun e m => by have := h e m; omega
def spPairs : Sp := fun vs H Q _ => ∃ n : Nat, vs = [.int (n : Nat)] ∧ 0 < n ∧ n ≤ 8 ∧ ∀ (p : Addr) (H' : Hp) (xs : List V), H p = none → Same H H' → H' p = some (.lst xs) → PairsV H' n xs → xs.length ≤ 64 → Q (.ref p) H'
def spShuf : Sp := fun vs H Q _ => ∃ (p q t : Addr) (xs : List V), vs = [.ref p, .ref t] ∧ BoxAt H p q ∧ t ≠ p ∧ H t = some (.lst xs) ∧ xs.length ≤ 1000 ∧ ∀ (r : Addr) (H' : Hp) (ys : List V), H r = none → BoxAt H' p q → But p H H' → H' r = some (.lst ys) → ys.Perm xs → Q (.ref r) H'
def spSome : Sp := fun vs H Q _ => ∃ (p q : Addr) (n : Nat) (o : Int), vs = [.ref p, .int (n : Nat), .int o] ∧ BoxAt H p q ∧ 0 < n ∧ n ≤ 8 ∧ ∀ (r : Addr) (H' : Hp) (ts : List T3), H r = none → BoxAt H' p q → But p H H' → TiesAt H' r ts → Good n ts → ts.length ≤ 14 → Q (.ref r) H'
end K
namespace K
open PySem PySem.Spec PyProof.Rows L2
open Sw (T3 Dist at? relax roundOf rounds)
def tupData (e : T3) : PyData := .tuple [.int (e.1 : Nat), .int (e.2.1 : Nat), .int (e.2.2 : Nat)]
def tieData (ts : List T3) : PyData := .list (ts.map tupData)
theorem dp_ties {K : PySem.W.Frag} {H : Hp} {t : Addr} {ts : List T3} (h : TiesAt H t ts) : Dp K H (.ref t) (tieData ts) := by
  obtain ⟨as, h1, h2⟩ := h
  refine .lst (SqL.of h1) ?_
  clear h1
  induction h2 with
  | nil => exact .nil
  | cons r _ ih => exact .cons (.tup (SqT.of r) (.cons (.int _) (.cons (.int _) (.cons (.int _) .nil)))) ih
theorem lay_ties (ts : List T3) : PyData.canLayAll0 (ts.map tupData) = true := by
  induction ts with
  | nil => simp [PyData.canLayAll0]
  | cons e ts ih => simp [PyData.canLayAll0, PyData.canLay0, tupData, ih]
theorem depth_ties (ts : List T3) : PyData.depthAll (ts.map tupData) ≤ 2 := by
  induction ts with
  | nil => simp [PyData.depthAll]
  | cons e ts ih =>
    have h1 : (tupData e).depth ≤ 2 := by simp [tupData, PyData.depth, PyData.depthAll]
    simp only [List.map_cons, PyData.depthAll]
    omega
theorem shaped_ties (ts : List T3) : SeqAt.shaped (tieData ts) = true := by
  unfold SeqAt.shaped tieData
  have h1 := lay_ties ts
  have h2 := depth_ties ts
  have h3 : (PyData.list (ts.map tupData)).canLay0 = true := by simpa [PyData.canLay0] using h1
  have h4 : (PyData.list (ts.map tupData)).depth ≤ 64 := by
    have e : (PyData.list (ts.map tupData)).depth = PyData.depthAll (ts.map tupData) + 1 := by simp [PyData.depth, Nat.add_comm]
    omega
  rw [h3, decide_eq_true h4]
  rfl
/-- the law's own going round -/
def swp (e : T3) : T3 := (e.2.1, e.1, e.2.2)
def lfarD (n : Nat) (ts : List T3) (g : Nat) : Dist := rounds (ts ++ ts.map swp) n (Sw.start n g)
theorem lfar_mem (ts : List T3) (e : T3) : e ∈ both ts ↔ e ∈ ts ++ ts.map swp := by
  rw [both_mem, List.mem_append, List.mem_map]
  constructor
  · rintro (h | h)
    · exact .inl h
    · exact .inr ⟨_, h, rfl⟩
  · rintro (h | ⟨x, hx, rfl⟩)
    · exact .inl h
    · exact .inr hx
theorem lfarD_is {n g : Nat} {ts : List T3} (h : Fits n ts) (hg : g < n) : Sw.IsFar (both ts) n g (lfarD n ts g) := Sw.far_is _ (lfar_mem ts) (fun e m => (both_lt h e m).1) hg
theorem far_lfar {n g : Nat} {ts : List T3} (h : Fits n ts) (hg : g < n) : lfarD n ts g = farD n ts g := Sw.far_one (lfarD_is h hg) (farD_is h hg)
def spLFar : Sp := fun vs H Q _ => ∃ (n g : Nat) (t : Addr) (ts : List T3), vs = [.int (n : Nat), .ref t, .int (g : Nat)] ∧ g < n ∧ n ≤ 1000 ∧ TiesAt H t ts ∧ ts.length ≤ 400 ∧ Fits n ts ∧ ∀ p H', H p = none → Same H H' → DistAt H' p (lfarD n ts g) → Q (.ref p) H'
theorem ov_flat (x : Option Nat) : flat (ov x) = true := by cases x <;> rfl
theorem eqv_dist {H : Hp} {a b : Addr} {d : Dist} {m : Nat} (h1 : DistAt H a d) (h2 : DistAt H b d) (hl : d.length ≤ 1000) : Eqv (m + 2) H (.ref a) (.ref b) := by
  refine .inr ⟨a, b, _, _, rfl, rfl, .inl ⟨h1, h2⟩, rfl, by rw [List.length_map]; exact hl, fun i u v hu hv => ?_⟩
  rw [hu] at hv
  cases hv
  rw [List.getElem?_map] at hu
  obtain ⟨x, _, rfl⟩ := Option.map_eq_some_iff.mp hu
  exact .inl ⟨rfl, ov_flat x⟩
/-- the law: a list of at most 63 ints is handed in, True comes out -/
def spLaw (K : PySem.W.Frag) : Sp := fun vs H Q _ => ∃ (a : Addr) (ns : List Int), vs = [.ref a] ∧ SqL K H a (ns.map V.int) ∧ ns.length ≤ 63 ∧ ∀ H', Q (.bl true) H'
theorem paired_pick {α β : Type} {R : α → β → Prop} : ∀ {xs : List α} {ys : List β}, Paired R xs ys → ∀ xs' : List α, (∀ x ∈ xs', x ∈ xs) → ∃ ys' : List β, Paired R xs' ys' ∧ ∀ y ∈ ys', y ∈ ys
  | xs, ys, h, [], _ => ⟨[], .nil, fun y m => by cases m⟩
  | xs, ys, h, x :: xs', hs => by
    obtain ⟨i, hi, e⟩ := List.getElem_of_mem (hs x List.mem_cons_self)
    obtain ⟨y, ey, r⟩ := paired_at h i x (by rw [List.getElem?_eq_getElem hi, e])
    obtain ⟨ys', h1, h2⟩ := paired_pick h xs' fun z m => hs z (List.mem_cons_of_mem _ m)
    refine ⟨y :: ys', .cons r h1, fun z m => ?_⟩
    rcases List.mem_cons.mp m with q | q
    · subst q; exact List.mem_of_getElem? ey
    · exact h2 z q
theorem perm_refs {as : List Addr} {ys : List V} (h : ys.Perm (as.map V.ref)) : ∃ bs : List Addr, ys = bs.map V.ref ∧ bs.Perm as := by
  have hm : ∀ y ∈ ys, ∃ b, y = V.ref b := fun y m => by
    obtain ⟨b, _, e⟩ := List.mem_map.mp (h.mem_iff.mp m)
    exact ⟨b, e.symm⟩
  have key : ∀ zs : List V, (∀ y ∈ zs, ∃ b, y = V.ref b) → ∃ bs : List Addr, zs = bs.map V.ref := by
    intro zs
    induction zs with
    | nil => intro _; exact ⟨[], rfl⟩
    | cons z zs ih =>
      intro hz
      obtain ⟨b, e⟩ := hz z List.mem_cons_self
      obtain ⟨bs, e2⟩ := ih fun y m => hz y (List.mem_cons_of_mem _ m)
      exact ⟨b :: bs, by rw [e, e2]; rfl⟩
  obtain ⟨bs, e⟩ := key ys hm
  refine ⟨bs, e, ?_⟩
  rw [e] at h
  have h2 := h.map (fun v => match v with | V.ref a => a | _ => 0)
  rw [List.map_map, List.map_map] at h2
  have e1 : ∀ l : List Addr, l.map ((fun v => match v with | V.ref a => a | _ => 0) ∘ V.ref) = l := fun l => by
    induction l with
    | nil => rfl
    | cons x l ih => rw [List.map_cons, ih]; rfl
  rw [e1, e1] at h2
  exact h2
end K

namespace K
open PySem PySem.Spec PyProof.Rows L2
/-- a def that can be called: its promise, its name, its place, how its arguments bind -/
structure Cal (P : Program) (w : World) (K : PySem.W.Frag) (mg : Str → Option Value) (base : Heap) (k : Nat) (x : Str) (f : Addr) (fd : FuncData) (ps : List Str) (sp : Sp) : Prop where
  ok : FnOk P w K mg base CX0 k f fd ps sp
  g : mg x = some (.ref f)
  kp : PySem.W.keepIn K (.ref f) = true
  b : Binds K fd ps []
/-- the built-in names that the text reads stand for the built-in things -/
structure BT (mg : Str → Option Value) : Prop where
  len : mg "len" = none
  range : mg "range" = none
  list : mg "list" = none
  tuple : mg "tuple" = none
  isinstance : mg "isinstance" = none
  bool : mg "bool" = none
  int : mg "int" = none
  str : mg "str" = none
  all : mg "all" = none
  zip : mg "zip" = none
  sum : mg "sum" = none
  min : mg "min" = none
  sorted : mg "sorted" = none
  abs : mg "abs" = none
  enumerate : mg "enumerate" = none
end K

namespace K
open PySem PySem.Spec PyProof.Rows L2
open Sw (T3 Dist at? relax roundOf rounds)
theorem rep_non (n : Nat) : (List.replicate n [V.non]).flatten = (List.replicate n (none : Option Nat)).map ov := by
  induction n with
  | zero => rfl
  | succ n ih => rw [List.replicate_succ, List.replicate_succ, List.flatten_cons, ih]; rfl
theorem take_succ_of {α : Type} {l : List α} {i : Nat} {x : α} (h : l[i]? = some x) : l.take (i + 1) = l.take i ++ [x] := by
  rw [List.take_add_one, h]; rfl
theorem both_snoc (ts : List T3) (e : T3) : both (ts ++ [e]) = both ts ++ [e, (e.2.1, e.1, e.2.2)] := by
  unfold both
  rw [List.flatMap_append]
  simp
theorem roundOf_append (L M : List T3) (d : Dist) : roundOf (L ++ M) d = roundOf M (roundOf L d) := List.foldl_append
theorem map_ref_at {as : List Addr} {i : Nat} {y : V} (h : (as.map V.ref)[i]? = some y) : ∃ a, as[i]? = some a ∧ y = .ref a := by
  rw [List.getElem?_map] at h
  obtain ⟨a, e, q⟩ := Option.map_eq_some_iff.mp h
  exact ⟨a, e, q.symm⟩
end K
namespace K
open PySem PySem.Spec PyProof.Rows L2
open Sw (T3 Dist at? relax roundOf rounds IsNext Cand IsFar nbr candL)
/-- a row of neighbours (house, price) -/
def NbrAt (H : Hp) (p : Addr) (L : List (Nat × Nat)) : Prop := ∃ as : List Addr, H p = some (.lst (as.map V.ref)) ∧ Paired (fun a q => H a = some (.tup [.int (q.1 : Nat), .int (q.2 : Nat)])) as L
theorem NbrAt.same {H H' : Hp} {p : Addr} {L : List (Nat × Nat)} (h : NbrAt H p L) (s : Same H H') : NbrAt H' p L := by
  obtain ⟨as, h1, h2⟩ := h
  exact ⟨as, s _ _ h1, paired_mono (fun a q e => s _ _ e) h2⟩
theorem nbr_both (ts : List T3) (h u c : Nat) : (u, c) ∈ nbr ts h ↔ (h, u, c) ∈ both ts := by
  rw [Sw.nbr_mem, both_mem]
theorem both_sym (ts : List T3) : ∀ a b c, (a, b, c) ∈ both ts → (b, a, c) ∈ both ts := fun a b c m => by
  rw [both_mem] at m ⊢
  exact m.symm
def spNbr : Sp := fun vs H Q _ => ∃ (t : Addr) (ts : List T3) (h : Nat), vs = [.ref t, .int (h : Nat)] ∧ TiesAt H t ts ∧ ts.length ≤ 400 ∧ ∀ p H', H p = none → Same H H' → NbrAt H' p (nbr ts h) → Q (.ref p) H'
def spNextH : Sp := fun vs H Q _ => ∃ (p t : Addr) (d : Dist) (ts : List T3) (n g h : Nat), vs = [.ref p, .ref t, .int (g : Nat), .int (h : Nat)] ∧ DistAt H p d ∧ TiesAt H t ts ∧ ts.length ≤ 400 ∧ Fits n ts ∧ IsFar (both ts) n g d ∧ h < n ∧
  ∀ x H', IsNext (both ts) d g h x → Same H H' → Q (ov x) H'
/-- the list of next houses -/
def NextsAt (H : Hp) (p : Addr) (E : List T3) (d : Dist) (n g : Nat) : Prop := ∃ xs : List (Option Nat), H p = some (.lst (xs.map ov)) ∧ xs.length = n ∧ ∀ h < n, IsNext E d g h (at? xs h)
def spNexts : Sp := fun vs H Q _ => ∃ (n g : Nat) (t : Addr) (ts : List T3), vs = [.int (n : Nat), .ref t, .int (g : Nat)] ∧ g < n ∧ n ≤ 1000 ∧ TiesAt H t ts ∧ ts.length ≤ 400 ∧ Fits n ts ∧ ∀ p H', H p = none → Same H H' → NextsAt H' p (both ts) (farD n ts g) n g → Q (.ref p) H'
def spLNext : Sp := fun vs H Q _ => ∃ (n g h : Nat) (t : Addr) (ts : List T3), vs = [.int (n : Nat), .ref t, .int (h : Nat), .int (g : Nat)] ∧ g < n ∧ h < n ∧ n ≤ 1000 ∧ TiesAt H t ts ∧ ts.length ≤ 400 ∧ Good n ts ∧
  ∀ x H', IsNext (both ts) (farD n ts g) g h x → Same H H' → Q (ov x) H'
theorem nexts_eqv {H : Hp} {a b : Addr} {E : List T3} {d : Dist} {n g m : Nat} (h1 : NextsAt H a E d n g) (h2 : NextsAt H b E d n g) (hn : n ≤ 1000) : Eqv (m + 2) H (.ref a) (.ref b) := by
  obtain ⟨xs, e1, l1, n1⟩ := h1
  obtain ⟨ys, e2, l2, n2⟩ := h2
  have e : xs = ys := by
    refine List.ext_getElem? fun i => ?_
    by_cases hi : i < n
    · have := Sw.next_one (n1 i hi) (n2 i hi)
      unfold at? at this
      rw [List.getElem?_eq_getElem (by omega), List.getElem?_eq_getElem (by omega)] at this ⊢
      simpa using this
    · rw [List.getElem?_eq_none (by omega), List.getElem?_eq_none (by omega)]
  subst e
  exact eqv_dist e1 e2 (by omega)
theorem NextsAt.same {H H' : Hp} {p : Addr} {E : List T3} {d : Dist} {n g : Nat} (h : NextsAt H p E d n g) (s : Same H H') : NextsAt H' p E d n g := by
  obtain ⟨xs, h1, h2⟩ := h
  exact ⟨xs, s _ _ h1, h2⟩
end K
namespace K
open PySem PySem.Spec PyProof.Rows L2
open Sw (T3 Dist at? relax roundOf rounds IsNext Cand IsFar nbr candL)
theorem tv_inj {e u : T3} (h : tv e = tv u) : e = u := by
  obtain ⟨a, b, c⟩ := e
  obtain ⟨a', b', c'⟩ := u
  unfold tv at h
  injection h with h1 h
  injection h with h2 h
  injection h with h3 _
  injection h1 with h1
  injection h2 with h2
  injection h3 with h3
  have h1 : (a : Int) = a' := h1
  have h2 : (b : Int) = b' := h2
  have h3 : (c : Int) = c' := h3
  have q1 : a = a' := by omega
  have q2 : b = b' := by omega
  have q3 : c = c' := by omega
  rw [q1, q2, q3]
theorem ties_mem {H : Hp} {as : List Addr} {ts : List T3} (h : Paired (fun a e => H a = some (.tup (tv e))) as ts) (e : T3) : e ∈ ts ↔ ∃ a ∈ as, H a = some (.tup (tv e)) := by
  induction h with
  | nil => exact ⟨fun m => (by cases m), fun ⟨a, m, _⟩ => (by cases m)⟩
  | @cons a u as ts r _ ih =>
    constructor
    · intro m
      rcases List.mem_cons.mp m with q | q
      · subst q; exact ⟨a, List.mem_cons_self, r⟩
      · obtain ⟨b, m2, e2⟩ := ih.mp q
        exact ⟨b, List.mem_cons_of_mem _ m2, e2⟩
    · rintro ⟨b, m, e2⟩
      rcases List.mem_cons.mp m with q | q
      · subst q
        rw [r] at e2
        injection e2 with e2
        injection e2 with e2
        rw [tv_inj e2]
        exact List.mem_cons_self
      · exact List.mem_cons_of_mem _ (ih.mpr ⟨b, q, e2⟩)
theorem both_iff {ts us : List T3} (h : ∀ e, (e ∈ us ∨ swp e ∈ us) ↔ (e ∈ ts ∨ swp e ∈ ts)) (e : T3) : e ∈ both us ↔ e ∈ both ts := by
  rw [both_mem, both_mem]
  exact h e
theorem swapped_iff {us ts : List T3} (h : Paired (fun u e => u = e ∨ u = swp e) us ts) (e : T3) : (e ∈ us ∨ swp e ∈ us) ↔ (e ∈ ts ∨ swp e ∈ ts) := by
  induction h with
  | nil => exact ⟨fun m => m, fun m => m⟩
  | @cons u x us ts r _ ih =>
    have key : (e = u ∨ swp e = u) ↔ (e = x ∨ swp e = x) := by
      rcases r with q | q
      · rw [q]
      · subst q
        obtain ⟨a, b, c⟩ := e
        obtain ⟨a', b', c'⟩ := x
        unfold swp
        simp only [Prod.mk.injEq]
        constructor
        · rintro (⟨h1, h2, h3⟩ | ⟨h1, h2, h3⟩)
          · exact .inr ⟨h2, h1, h3⟩
          · exact .inl ⟨h2, h1, h3⟩
        · rintro (⟨h1, h2, h3⟩ | ⟨h1, h2, h3⟩)
          · exact .inr ⟨h2, h1, h3⟩
          · exact .inl ⟨h2, h1, h3⟩
    simp only [List.mem_cons]
    constructor
    · rintro ((q | q) | (q | q))
      · rcases key.mp (.inl q) with z | z
        · exact .inl (.inl z)
        · exact .inr (.inl z)
      · rcases ih.mp (.inl q) with z | z
        · exact .inl (.inr z)
        · exact .inr (.inr z)
      · rcases key.mp (.inr q) with z | z
        · exact .inl (.inl z)
        · exact .inr (.inl z)
      · rcases ih.mp (.inr q) with z | z
        · exact .inl (.inr z)
        · exact .inr (.inr z)
    · rintro ((q | q) | (q | q))
      · rcases key.mpr (.inl q) with z | z
        · exact .inl (.inl z)
        · exact .inr (.inl z)
      · rcases ih.mpr (.inl q) with z | z
        · exact .inl (.inr z)
        · exact .inr (.inr z)
      · rcases key.mpr (.inr q) with z | z
        · exact .inl (.inl z)
        · exact .inr (.inl z)
      · rcases ih.mpr (.inr q) with z | z
        · exact .inl (.inr z)
        · exact .inr (.inr z)
theorem farD_cong {n g : Nat} {ts us : List T3} (h1 : Fits n ts) (h2 : Fits n us) (hg : g < n) (h : ∀ e, e ∈ both us ↔ e ∈ both ts) : farD n us g = farD n ts g :=
  Sw.far_one (Sw.far_cong h (farD_is h2 hg)) (farD_is h1 hg)
theorem NextsAt.cong {H : Hp} {p : Addr} {E E' : List T3} {d : Dist} {n g : Nat} (he : ∀ e, e ∈ E ↔ e ∈ E') (h : NextsAt H p E d n g) : NextsAt H p E' d n g := by
  obtain ⟨xs, h1, h2, h3⟩ := h
  exact ⟨xs, h1, h2, fun i hi => Sw.next_cong he (h3 i hi)⟩
theorem fits_of {n : Nat} {ts us : List T3} (h : Fits n ts) (he : ∀ e, e ∈ both us ↔ e ∈ both ts) : Fits n us := fun e m => both_lt h e ((he e).mp ((both_mem us e).mpr (.inl m)))
end K

namespace PySem
namespace F
theorem args_minD (a d : Value) : argsOk "min" ⟨[a], [(Str.ofString "default", d)]⟩ := by unfold argsOk; kernel_rfl
end F
section
variable {prog : Program} {w : World} {A : Around} {E : Value → Shared → Prop} {s : Shared}
/-- a built-in's call with keywords, where the built-in goes on as another one -/
theorem call_tree_kw {id : String} {b : Builtin} {args : List Value} {kw : List (Str × Value)} {Q : Value → Shared → Prop} (hk : builtinKind id = none) (hp : plainId id = true) (hb : entryFor table id = some b) (ha : argsOk id ⟨args, kw⟩)
    (hc : wpAny (model prog w) A.in1 (b ⟨args, kw⟩) (fun fin s' => match fin with
      | .done f => (match (Except.ok f : Result) with | .ok (.ret v) => Q v s' | .ok _ => False | .error e => E e s')
      | .again c' => c'.quiet = true ∧ codeAny (model prog w) A c' (fun r s' => match r with | .ok (.ret v) => Q v s' | .ok _ => False | .error e => E e s') s') E s) : wpAny (model prog w) A (call (.builtin id) args kw) Q E s := by
  refine wpAny_call (codeAny_call_builtin hp hb ?_)
  simp only [checkBuiltinCall, hk]
  cases hsig : Manifest.signature? id with
  | none => exact wpAny_pure hc
  | some sig =>
    have hz : Bind.checkArgs id sig ⟨args, kw⟩ = pure () := by simpa only [argsOk, hsig] using ha
    show wpAny _ A.in1 (Bind.checkArgs id sig ⟨args, kw⟩) _ _ s
    rw [hz]; exact wpAny_pure hc
end
section
variable {prog : Program} {w : World} {A : Around} {R : Result → Shared → Prop} {I : Addr} {fp wr : List Addr} {n : Nat} {P : Nat → Value → Prop} {St : Nat → Heap → Prop}
theorem minD_name : (toString "min" ++ toString ".loop" : String) = "min.loop" := by decide
theorem minD_loop (d : Value) (W : Walks prog w A.in1 I fp wr n P St) (bt : Nat → Nat → Bool) (hcmp : CmpOf prog w A.in1 .Lt P bt) (S : Addr) (hSf : S ∉ fp) :
    ∀ (k j : Nat) (s : Shared) (vb : Value) (c : Nat), n - (j + 1) = k → j + 1 ≤ n → St (j + 1) s.heap → P (argBest bt j) vb → s.heap.get? S = some { cls := .type "list", dict := none, data := .seq #[vb, vb] c, slots := #[] } →
    (∀ v h' tk, P (argBest bt (n - 1)) v → (∀ b o, b ∉ wr → b ≠ S → s.heap.get? b = some o → h'.get? b = some o) → R (.ok (.ret v)) { s with heap := h', toks := tk }) → codeAny (model prog w) A (.builtin "min.loop" ⟨[.ref I, .none, .ref S], [(Str.ofString "default", d)]⟩) R s := by
  have nS : S ∉ wr := fun h => hSf (W.sub _ h)
  intro k
  induction k with
  | zero =>
    intro j s vb c hk hj st pb e0 hR
    have hin : j + 1 = n := by omega
    refine codeAny_builtin F.entry_min_loop ?_
    rw [Around.under_plainId F.plain_min_loop _]
    show wpAny _ A.in1 (seqItems? (.ref S) >>= _) _ _ s
    refine wpAny_bind (wpAny_seqItems e0 rfl ?_)
    show wpAny _ A.in1 (tryCatch (pyNext (.ref I)) _ >>= _) _ _ s
    refine wpAny_bind (wpAny_tryCatch (W.done s _ _ (hin ▸ st) fun h' tk keep => ?_))
    have e1 := keep S _ nS e0
    show wpAny _ A.in1 (updateSeq S (fun _ => #[]) >>= _) _ _ _
    refine wpAny_bind (wpAny_updateSeq e1 rfl (wpAny_bind (wpAny_letGo (wpAny_pure ?_))))
    exact hR vb _ tk (by rw [← hin]; exact pb) fun b o hbw hbS e => (Heap.get?_update_other _ _ (Ne.symm hbS)).trans (keep b o hbw e)
  | succ k ih =>
    intro j s vb c hk hj st pb e0 hR
    have hlt : j + 1 < n := by omega
    refine codeAny_builtin F.entry_min_loop ?_
    rw [Around.under_plainId F.plain_min_loop _]
    show wpAny _ A.in1 (seqItems? (.ref S) >>= _) _ _ s
    refine wpAny_bind (wpAny_seqItems e0 rfl ?_)
    show wpAny _ A.in1 (tryCatch (pyNext (.ref I)) _ >>= _) _ _ s
    refine wpAny_bind (wpAny_tryCatch (W.item (j + 1) s _ _ hlt st fun v h' tk pv st' keep => ?_))
    have e1 := keep S _ nS e0
    show wpAny _ A.in1 (tryCatch (holding [v, v] (richCompare .Lt v vb >>= _)) _ >>= _) _ _ _
    refine wpAny_bind (wpAny_tryCatch (wpAny_holding (wpAny_bind (hcmp (j + 1) (argBest bt j) v vb _ _ _ pv pb ?_))))
    refine wpAny_bind (wpAny_holding (wpAny_truthy_bool (wpAny_bind (wpAny_letGo (wpAny_pure ?_)))))
    cases hb : bt (j + 1) (argBest bt j) with
    | true =>
      simp only [if_true]
      refine wpAny_bind (wpAny_updateSeq e1 rfl (wpAny_bind (wpAny_letGo ?_)))
      rw [minD_name]
      refine wpAny_pure ⟨plainId_quiet F.plain_min_loop _, ih (j + 1) _ v _ (by omega) hlt (W.frame _ _ _ st' fun b hbf o e => (Heap.get?_update_other _ _ (fun h : S = b => hSf (by rw [h]; exact hbf))).trans e) (by simp only [argBest, hb, if_true]; exact pv) (Heap.get?_update_self _ e1 rfl) fun v' h2 tk2 pv' keep2 => ?_⟩
      exact hR v' h2 tk2 pv' fun b o hbw hbS e => keep2 b o hbw hbS ((Heap.get?_update_other _ _ (Ne.symm hbS)).trans (keep b o hbw e))
    | false =>
      simp only [Bool.false_eq_true, if_false]
      refine wpAny_bind (wpAny_letGo ?_)
      rw [minD_name]
      refine wpAny_pure ⟨plainId_quiet F.plain_min_loop _, ih (j + 1) _ vb c (by omega) hlt st' (by simp only [argBest, hb, Bool.false_eq_true, if_false]; exact pb) e1 fun v' h2 tk2 pv' keep2 => ?_⟩
      exact hR v' h2 tk2 pv' fun b o hbw hbS e => keep2 b o hbw hbS (keep b o hbw e)
theorem minD_first (d : Value) (W : Walks prog w A.in1 I fp wr n P St) (bt : Nat → Nat → Bool) (hcmp : CmpOf prog w A.in1 .Lt P bt) (S : Addr) (hSf : S ∉ fp) {s : Shared} {c : Nat} (st : St 0 s.heap) (e0 : s.heap.get? S = some { cls := .type "list", dict := none, data := .seq #[] c, slots := #[] })
    (h0 : n = 0 → ∀ h' tk, (∀ b o, b ∉ wr → b ≠ S → s.heap.get? b = some o → h'.get? b = some o) → R (.ok (.ret d)) { s with heap := h', toks := tk })
    (hR : 0 < n → ∀ v h' tk, P (argBest bt (n - 1)) v → (∀ b o, b ∉ wr → b ≠ S → s.heap.get? b = some o → h'.get? b = some o) → R (.ok (.ret v)) { s with heap := h', toks := tk }) :
    codeAny (model prog w) A (.builtin "min.loop" ⟨[.ref I, .none, .ref S], [(Str.ofString "default", d)]⟩) R s := by
  have nS : S ∉ wr := fun h => hSf (W.sub _ h)
  refine codeAny_builtin F.entry_min_loop ?_
  rw [Around.under_plainId F.plain_min_loop _]
  show wpAny _ A.in1 (seqItems? (.ref S) >>= _) _ _ s
  refine wpAny_bind (wpAny_seqItems e0 rfl ?_)
  show wpAny _ A.in1 (tryCatch (pyNext (.ref I)) _ >>= _) _ _ s
  by_cases hn : 0 < n
  · refine wpAny_bind (wpAny_tryCatch (W.item 0 s _ _ hn st fun v h' tk pv st' keep => ?_))
    have e1 := keep S _ nS e0
    show wpAny _ A.in1 (updateSeq S (fun _ => #[v, v]) >>= _) _ _ _
    refine wpAny_bind (wpAny_updateSeq e1 rfl ?_)
    rw [minD_name]
    refine wpAny_pure ⟨plainId_quiet F.plain_min_loop _, minD_loop d W bt hcmp S hSf _ 0 _ v _ rfl hn (W.frame _ _ _ st' fun b hbf o e => (Heap.get?_update_other _ _ (fun h : S = b => hSf (by rw [h]; exact hbf))).trans e) pv (Heap.get?_update_self _ e1 rfl) fun v' h2 tk2 pv' keep2 => ?_⟩
    exact hR hn v' h2 tk2 pv' fun b o hbw hbS e => keep2 b o hbw hbS ((Heap.get?_update_other _ _ (Ne.symm hbS)).trans (keep b o hbw e))
  · have hz : n = 0 := by omega
    refine wpAny_bind (wpAny_tryCatch (W.done s _ _ (hz ▸ st) fun h' tk keep => ?_))
    refine wpAny_bind (wpAny_rule (wpAny_pure ?_))
    exact h0 hz h' tk fun b o hbw _ e => keep b o hbw e
end
section
variable {prog : Program} {w : World} {A : Around} {E : Value → Shared → Prop} {s : Shared}
theorem call_minD {x d : Value} {Q : Value → Shared → Prop}
    (h : wpAny (model prog w) A.in1 (pyIter x) (fun it s₂ => ∃ I fp wr n P St bt, it = .ref I ∧ Walks prog w A.in1 I fp wr n P St ∧ St 0 s₂.heap ∧ (∀ b ∈ fp, b < s₂.heap.objs.size) ∧ CmpOf prog w A.in1 .Lt P bt ∧
      (n = 0 → ∀ h' tk, (∀ b o, b ∉ wr → s₂.heap.get? b = some o → h'.get? b = some o) → Q d { s₂ with heap := h', toks := tk }) ∧
      (0 < n → ∀ v h' tk, P (argBest bt (n - 1)) v → (∀ b o, b ∉ wr → s₂.heap.get? b = some o → h'.get? b = some o) → Q v { s₂ with heap := h', toks := tk })) E s) :
    wpAny (model prog w) A (call (.builtin "min") [x] [(Str.ofString "default", d)]) Q E s := by
  refine call_tree_kw F.kind_min F.plain_min F.entry_min (F.args_minD _ _) ?_
  show wpAny _ A.in1 (Builtin.Builtins.bindParams "min" ["key", "default"] 0 ⟨[], [(Str.ofString "default", d)]⟩ >>= _) _ _ s
  refine wpAny_bind (wpAny_of_eq (show Builtin.Builtins.bindParams "min" ["key", "default"] 0 ⟨[], [(Str.ofString "default", d)]⟩ = pure [none, some d] from rfl) ?_)
  refine wpAny_bind (wpAny_pure (wpAny_bind (wpAny_mono h (fun it s₂ h₂ => ?_) fun _ _ e => e)))
  obtain ⟨I, fp, wr, n, P, St, bt, rfl, W, hst, hfp, hcmp, hQ0, hQ⟩ := h₂
  refine wpAny_bind (wpAny_newObj_type ?_)
  have nS : s₂.heap.objs.size ∉ fp := fun hm => Nat.lt_irrefl _ (hfp _ hm)
  rw [minD_name]
  refine wpAny_pure ⟨plainId_quiet F.plain_min_loop _, minD_first d W bt hcmp s₂.heap.objs.size nS (W.frame _ _ _ hst fun b _ o e => Heap.get?_push_of_some _ e) (Heap.get?_push_size _ rfl) (fun hz h' tk keep => ?_) (fun hn v h' tk pv keep => ?_)⟩
  · exact hQ0 hz h' tk fun b o hbw e => keep b o hbw (Nat.ne_of_lt (Heap.lt_size e)) (Heap.get?_push_of_some _ e)
  · exact hQ hn v h' tk pv fun b o hbw e => keep b o hbw (Nat.ne_of_lt (Heap.lt_size e)) (Heap.get?_push_of_some _ e)
end
end PySem
namespace L2
open PySem PySem.Spec PyProof.Rows
section
variable {X : Cx}
/-- min(xs, default=d) of a list of ints -/
def rMinD (K : PySem.W.Frag) : List V → List V → Hp → VK → Prop := fun vs zs H Q => ∃ (a : Addr) (ns : List Int) (d : V), vs = [V.ref a] ∧ zs = [d] ∧ SqL K H a (ns.map V.int) ∧ (ns = [] → Q d H) ∧ ∀ m, m ∈ ns → (∀ y, y ∈ ns → m ≤ y) → Q (.int m) H
theorem cr_minD (hc : X.calm = true) : CallRK X (.builtin "min") ["default"] (rMinD X.K) := by
  intro pins s σ H vs zs us ws Q I r r2 h
  obtain ⟨a, ns, d, rfl, rfl, hs, q0, q⟩ := h
  obtain ⟨its, rv, hl, _⟩ := I.list hs
  rw [Vals.ref1 r]
  cases r2 with
  | @cons _ u _ _ rd rn =>
  cases rn
  have hi := rv.ints
  have hlen := hi.length
  have hat : ∀ (i : Nat) (v : Value), its.toArray[i]? = some v → ∃ t, v = .int (ns.getD i 0) t := fun i v hv => by
    have hv' : its[i]? = some v := by simpa using hv
    have hlt : i < its.length := (List.getElem?_eq_some_iff.mp hv').1
    obtain ⟨w, hw, rw'⟩ := rv.get (i := i) (x := .int (ns.getD i 0)) (by
      rw [List.getElem?_map, List.getD_eq_getElem?_getD, List.getElem?_eq_getElem (by omega : i < ns.length)]
      rfl)
    rw [hv'] at hw
    cases hw
    exact rw'
  show wpAny _ _ (call (.builtin "min") [.ref a] [(Str.ofString "default", u)]) _ _ _
  refine call_minD (iter_any hl.isList fun s₂ e2 st hne => ?_)
  subst e2
  refine ⟨_, _, _, _, _, _, _, rfl, Walks.list (A := X.A.in1) (I.ok.hd hc) _ a hne its.toArray, st, ?_, CmpOf.ints_lt (fun i => ns.getD i 0) hat, fun hz h' tk hk => ?_, fun hn v h' tk hP hk => ?_⟩
  · intro b hb
    have hsz := Heap.size_push s.heap { cls := .type "list_iterator", data := .fields #[.ref a, .int 0 0] }
    show b < (s.heap.push _).objs.size
    rw [hsz]
    rcases List.mem_cons.mp hb with e1 | hb
    · rw [e1]; exact Nat.lt_succ_self _
    · rw [List.mem_singleton.mp hb]
      obtain ⟨_, e, _⟩ := hl.isList
      exact Nat.lt_succ_of_lt (Heap.lt_size e)
  · refine ⟨d, H, I.kept fun b o eo => hk b o (fun hmem => ?_) (Heap.get?_push_of_some _ eo), rd, q0 ?_⟩
    · rw [List.mem_singleton] at hmem
      exact absurd (hmem ▸ Heap.lt_size eo) (Nat.lt_irrefl _)
    · rw [List.size_toArray] at hz
      cases ns with
      | nil => rfl
      | cons => simp at hlen; omega
  · obtain ⟨t, rfl⟩ := hat _ _ hP
    obtain ⟨h1, h2⟩ := argBest_lt (fun i => ns.getD i 0) (its.toArray.size - 1)
    rw [List.size_toArray] at hn h1 h2 ⊢
    refine ⟨.int _, H, I.kept fun b o eo => hk b o (fun hmem => ?_) (Heap.get?_push_of_some _ eo), ⟨t, rfl⟩, q _ ?_ fun y hy => ?_⟩
    · rw [List.mem_singleton] at hmem
      exact absurd (hmem ▸ Heap.lt_size eo) (Nat.lt_irrefl _)
    · have hlt : argBest (fun i j => decide (ns.getD i 0 < ns.getD j 0)) (its.length - 1) < ns.length := by omega
      rw [List.getD_eq_getElem?_getD, List.getElem?_eq_getElem hlt]
      exact List.getElem_mem hlt
    · obtain ⟨j, hj, rfl⟩ := List.getElem_of_mem hy
      have := h2 j (by omega)
      rw [List.getD_eq_getElem?_getD (i := j), List.getElem?_eq_getElem hj] at this
      exact this
end
end L2

namespace PySem
open Sem
/-- the text of a list, whatever is under way -/
theorem list_repr_any {M : Model} {A : Around} {E : Value → Shared → Prop} {s : Shared} {Q : Fin → Shared → Prop} {a : Addr} {o : Obj} {x : Value} {l : List Value} {n b : Nat} (hget : s.heap.get? a = some o) (hd : o.data = .seq (x :: l).toArray n)
    (h1 : ∀ u tk, Q (.done (.ret (.str "[...]" u))) { s with toks := tk }) (h2 : wpAny M A (do again (.builtin "list.__repr__.loop" ⟨[.ref a, rawInt 0, ← newList [], rawInt b], []⟩)) Q E s) : wpAny M A (Builtin.listReprAt b ⟨[.ref a], []⟩) Q E s := by
  intro Γ p hΓ
  have k2 := h2 Γ p hΓ
  unfold Builtin.listReprAt
  simp [slotArgs, Builtin.List.listItems, seqItems?, wp_load_of (h := hget), hd, stack]
  show wp M Γ (if (Γ.below.any _) = true then _ else _) _ _ p s
  split
  · simp [rule, retStr, ret]
    exact h1 _ _
  · exact k2
section
variable {prog : Program} {w : World} {A : Around} {E : Value → Shared → Prop} {s : Shared}
theorem fmt_list_repr {a : Addr} {o : Obj} {l : List Value} {n : Nat} {ts : List Str} {Q : Value → Shared → Prop} (ha : s.heap.get? a = some o) (hc : o.cls = .type "list") (hd : o.data = .seq l.toArray n) (hlen : ts.length = l.toArray.size)
    (hT : ∀ (i : Nat) (y : Value), l.toArray[i]? = some y → ∃ t, ts[i]? = some t ∧ ReprIs prog w y t) (hsz : (listText ts).length ≤ sizeLine)
    (h : ∀ (m : Str) (h' : Heap) (u tk : Tok), m.length ≤ (listText ts).length + 5 → (∀ b o, s.heap.get? b = some o → h'.get? b = some o) → Q (.str m u) { s with heap := h', toks := tk }) : wpAny (model prog w) A (call (.builtin "list.__repr__") [.ref a]) Q E s := by
  have hTy : s.TypeIs (.ref a) "list" := ⟨o, ha, hc⟩
  cases l with
  | nil => exact call_list_repr_empty hTy ha hd (h "[]" s.heap _ _ (Nat.le_trans (by decide +kernel : ("[]" : Str).length ≤ 5) (Nat.le_add_left _ _)) fun _ _ e => e)
  | cons x l =>
    refine wpAny_call (codeAny_call_builtin F.slot_list_repr.plain F.entry_list_repr (F.slot_list_repr.check _ _ _ _ _ _ _ _ hTy (F.args_list_repr_1 _) ?_))
    refine list_repr_any (b := 0) ha hd (fun u tk => ?_) ?_
    · exact h "[...]" s.heap u tk (Nat.le_trans (by decide +kernel : ("[...]" : Str).length ≤ 5) (Nat.le_add_left _ _)) fun _ _ e => e
    · refine wpAny_bind (m := newList []) (wpAny_newObj_type ?_)
      refine wpAny_pure ⟨F.quiet_list_repr_loop _, ?_⟩
      refine codeAny_list_repr_start (P := s.heap.objs.size) (Nat.ne_of_lt (Heap.lt_size ha)) hlen hT (Heap.get?_push_of_some _ ha) hd (Heap.get?_push_size _ rfl) (fun h' u tk hk => ?_) (by omega)
      exact h (listText ts) h' u tk (Nat.le_add_right _ _) fun b o e => hk b o (Nat.ne_of_lt (Heap.lt_size e)) (Heap.get?_push_of_some _ e)
theorem fmt_list {a : Addr} {o : Obj} {l : List Value} {n : Nat} {ts : List Str} {Q : Value → Shared → Prop} (hu : A.units + 2 < cLine) (ha : s.heap.get? a = some o) (hc : o.cls = .type "list") (hd : o.data = .seq l.toArray n) (hlen : ts.length = l.toArray.size)
    (hT : ∀ (i : Nat) (y : Value), l.toArray[i]? = some y → ∃ t, ts[i]? = some t ∧ ReprIs prog w y t) (hsz : (listText ts).length ≤ sizeLine)
    (h : ∀ (m : Str) (h' : Heap) (u tk : Tok), m.length ≤ (listText ts).length + 5 → (∀ b o, s.heap.get? b = some o → h'.get? b = some o) → Q (.str m u) { s with heap := h', toks := tk }) : wpAny (model prog w) A (formatField (.ref a) Str.empty) Q E s :=
  wpAny_formatField_slot (fun _ _ => nofun) hu ⟨o, ha, hc⟩ F.slot_list_format F.slot_list_str F.slot_list_repr.toG
    (fmt_list_repr (s := { s with toks := s.toks + 1 }) ha hc hd hlen hT hsz fun m h' u tk hm hk => ⟨m, u, rfl, h m h' u tk hm hk⟩)
end
end PySem

namespace L2
open PySem PySem.Spec PyProof.Rows
theorem text_le : ∀ (ts : List Str) (k : Nat) (acc : Str), (textFrom k acc ts).length ≤ acc.length + piled ts
  | [], k, acc => Nat.le_add_right _ _
  | t :: ts, k, acc => by
    have ih := text_le ts (k + 1) (acc ++ ((if k > 0 then ", " else "" : String) : Str) ++ t)
    have e : (((if k > 0 then ", " else "" : String)) : Str).length ≤ 2 := by split <;> decide +kernel
    rw [strLen_append, strLen_append] at ih
    rw [piled_cons]
    show (textFrom (k + 1) (acc ++ ((if k > 0 then ", " else "" : String) : Str) ++ t) ts).length ≤ _
    omega
theorem digit_len {i : Int} (h0 : 0 ≤ i) (h1 : i < 10) : (Str.ofString (toString i)).length = 1 := by
  have : i = 0 ∨ i = 1 ∨ i = 2 ∨ i = 3 ∨ i = 4 ∨ i = 5 ∨ i = 6 ∨ i = 7 ∨ i = 8 ∨ i = 9 := by omega
  rcases this with e | e | e | e | e | e | e | e | e | e <;> subst e <;> decide +kernel
section
variable {X : Cx}
/-- {xs}, xs a list of digits: some text -/
def tFmtL (K : PySem.W.Frag) (te : TE) : TE := fun σ H Q => te σ H fun x H1 => ∃ (a : Addr) (ns : List Int), x = .ref a ∧ SqL K H1 a (ns.map V.int) ∧ ns.length ≤ 100 ∧ (∀ n ∈ ns, 0 ≤ n ∧ n < 10) ∧ ∀ m : Str, m.length ≤ 1000 → Q (.str m) H1
theorem pe_fmtLu {e : Expr} {te : TE} {pos : Pos} (hu : X.A.units + 2 < cLine) (he : PE X e te) : PE X (.FormattedValue e (-1) none pos) (tFmtL X.K te) := by
  refine ⟨fun pins s σ H Q I h => ?_⟩
  refine wpAny_FormattedValue_plain (thn (he.run pins s σ H _ I h) fun v s1 hv => ?_)
  obtain ⟨x, H1, I1, r1, a, ns, rfl, hs, hl, hn, q⟩ := hv
  cases r1
  obtain ⟨its, rv, pl, _⟩ := I1.list hs
  obtain ⟨o, ho, hcl, n, hd⟩ := pl.isList
  have hlen := rv.length
  rw [List.length_map] at hlen
  have hpile : ∀ l : List Int, (∀ n ∈ l, 0 ≤ n ∧ n < 10) → piled (l.map fun i => Str.ofString (toString i)) = 3 * l.length := by
    intro l
    induction l with
    | nil => intro _; rfl
    | cons i l ih =>
      intro hl
      have hi := hl i List.mem_cons_self
      rw [List.map_cons, piled_cons, ih (fun n m => hl n (List.mem_cons_of_mem _ m)), digit_len hi.1 hi.2, List.length_cons]
      omega
  have hp := hpile ns hn
  have hz : (listText (ns.map fun i => Str.ofString (toString i))).length ≤ 3 * ns.length + 2 := by
    unfold listText
    have h1 := text_le (ns.map fun i => Str.ofString (toString i)) 0 "["
    have e1 : ((("[" : String) : Str)).length = 1 := rfl
    have e2 : ((("]" : String) : Str)).length = 1 := rfl
    rw [strLen_append, e2]
    rw [e1] at h1
    omega
  refine fmt_list (ts := ns.map fun i => Str.ofString (toString i)) (by omega) ho hcl hd (by rw [List.length_map, List.size_toArray]; exact hlen) (fun i y hy => ?_) (by rw [sizeLine_eq]; omega) fun m h' u tk hm hk => ⟨.str m, H1, I1.kept hk, ⟨u, rfl⟩, q m (by omega)⟩
  have hy' : its[i]? = some y := by simpa using hy
  have hlt : i < ns.length := by have := (List.getElem?_eq_some_iff.mp hy').1; omega
  obtain ⟨z, hz2, rz⟩ := rv.get (i := i) (x := .int ns[i]) (by rw [List.getElem?_map, List.getElem?_eq_getElem hlt]; rfl)
  rw [hy'] at hz2
  cases hz2
  obtain ⟨t, rfl⟩ := rz
  have hb := hn _ (List.getElem_mem hlt)
  refine ⟨_, by rw [List.getElem?_map, List.getElem?_eq_getElem hlt]; rfl, ReprIs.int t ?_⟩
  have : ns[i].natAbs < 10 := by omega
  exact Nat.lt_of_le_of_lt (Nat.log2_le_self _) (by omega)
theorem pe_fmtL {e : Expr} {te : TE} {pos : Pos} {k : Nat} (hr : Room k X.A) (he : PE X e te) : PE X (.FormattedValue e (-1) none pos) (tFmtL X.K te) := pe_fmtLu (by have := hr.units; omega) he
/-- C.m(e, ..), C the class at C (own), m a def of it -/
def tClsF (C : Addr) (sp : Sp) (E : XK) (ta : TE) (t : TA) : TE := fun σ H Q => ta σ H fun x H1 => x = .ref C ∧ t σ H1 fun vs H2 => sp vs H2 Q E
theorem pe_clsf {CX : CXT} {k : Nat} {C f : Addr} {fd : FuncData} {ps : List Str} {mc : Value} {sp : Sp} {E : XK} {o e : Expr} {es : List Expr} {m : Str} {pos apos : Pos} {ta : TE} {t : TA} {pl : Sem Bool} (he : PE X o ta) (r : ClX.CRead X.K C mc) (at_ : PySem.W.findCls X.K (.ref C) mc m = some (.val (.ref f)))
    (F : FnOk X.prog X.w X.K X.mg X.base CX k f fd ps sp) (hr : Room k X.A) (hk : PySem.W.keepIn X.K (.ref f) = true) (hb : Binds X.K fd ps []) (hx : Passes CX X E) (ha : PA X (e :: es) t)
    (hst : starEach (e :: es) X.env = (false, eval e X.env) :: starEach es X.env := by rfl) (hpl : (backTo pos (starEach es X.env)).any (·.1) = false := by rfl)
    (ht : eval (.Call (.Attribute o m apos) (e :: es) [] pos) X.env = (do
      let ov ← eval o X.env
      standAt apos.atName
      let (f, first) ← holding [ov] (getMethod ov m pl)
      callWith pos f first (backTo pos (starEach (e :: es) X.env)) (backToKw pos (keywordEach [] X.env))) := by rfl) :
    PE X (.Call (.Attribute o m apos) (e :: es) [] pos) (tClsF C sp E ta t) := by
  refine ⟨fun pins s σ H Q I h => ?_⟩
  refine PySem.W.methodCall_KW (pl := pl) (thn (he.run pins s σ H _ I h) fun u s1 ⟨x, H1, I1, rx, ex, q⟩ => ?_) ht
  subst ex
  obtain rfl : u = Value.ref C := rx
  refine PySem.W.method_cls I1.kIn r.ga (ClX.getcval_ok (v := .ref f) I1 r ⟨at_, rfl⟩ fun s2 I2 => ?_)
  refine PySem.W.callWith_K (h₀ := X.base) I2.ok.mod.kin hk (thn (ha.run pos pins s2 σ H1 _ I2 q) fun us s3 ⟨vs, H2, I3, rv, q2⟩ => ⟨I3.kIn, ?_⟩) hst hpl
  refine run_fn (dvs := []) F hr hb .nil hx I3 rv ?_
  rw [List.append_nil]
  exact q2
end
end L2

/-! several except clauses, with and without a name -/
namespace L2
open PySem PySem.Spec PyProof.Rows
/-- one clause: the class that it names, the slot of its name (if any), its suite's reading -/
structure Cl where
  c : Value
  i : Option Nat
  ts : Addr → Value → Option Addr → TS
def slotN (i : Option Nat) (v : Option V) (σ : St) : St := match i with
  | none => σ
  | some i => σ.set i v
def endsN (i : Option Nat) (D : Ends) : Ends := match i with
  | none => D
  | some i => { nx := fun σ H => D.nx (σ.set i none) H, rt := D.rt, bk := fun σ H => D.bk (σ.set i none) H, ct := fun σ H => D.ct (σ.set i none) H }
/-- what the clauses wish of an exception of the body -/
def wMix (K : PySem.W.Frag) (Wout : WX) (D : Ends) : List Cl → WX
  | [] => Wout
  | x :: r => fun cls d σ H => ∃ b, PySem.W.exmOne K cls x.c = some b ∧ (b = true → ∀ a, H a = none → x.ts a cls d (endsN x.i D) (slotN x.i (some (.ref a)) σ) H) ∧ (b = false → wMix K Wout D r cls d σ H)
inductive MixOk (X : Cx) : List ExceptHandler → List Cl → Prop
  | nil : MixOk X [] []
  | bare {x : Str} {c : Value} {ts : Addr → Value → Option Addr → TS} {b₀ : Stmt} {suite : List Stmt} {np pos' : Pos} {hds : List ExceptHandler} {l : List Cl} (hc : Names X x c)
      (hsu : ∀ (a : Addr) (oe : Obj) (cls : Value) (d : Option Addr) (pn : List (Addr × Obj)), Zc cls d oe → (∃ vs, oe.data = .fields vs) → PSs (X.suite a ((a, oe) :: pn)) (b₀ :: suite) (ts a cls d)) (r : MixOk X hds l) :
      MixOk X (.ExceptHandler (some (.Name x np)) none (b₀ :: suite) pos' :: hds) (⟨c, none, ts⟩ :: l)
  | as {x n : Str} {i : Nat} {c : Value} {ts : Addr → Value → Option Addr → TS} {b₀ : Stmt} {suite : List Stmt} {np pos' : Pos} {hds : List ExceptHandler} {l : List Cl} (hN : X.N.Nodup) (hi : X.N[i]? = some n) (hln : X.env.kindOf n = some .local) (hc : Names X x c)
      (hsu : ∀ (a : Addr) (oe : Obj) (cls : Value) (d : Option Addr) (pn : List (Addr × Obj)), Zc cls d oe → (∃ vs, oe.data = .fields vs) → PSs (X.suite a ((a, oe) :: pn)) (b₀ :: suite) (ts a cls d)) (r : MixOk X hds l) :
      MixOk X (.ExceptHandler (some (.Name x np)) (some n) (b₀ :: suite) pos' :: hds) (⟨c, some i, ts⟩ :: l)
section
variable {X : Cx} {body : List Stmt} {h₀ : ExceptHandler} {hds : List ExceptHandler} {l : List Cl} {pos : Pos} {tb : WX → TS} {Wout : WX}
theorem ps_try_mix (hs : X.stack = X.env :: X.outer) (hf : X.env.frame = some X.env.locals) (tk : Takes X Wout)
    (hb : ∀ (W : WX) (pn : List (Addr × Obj)) (xe : Value → Shared → Prop), Takes (X.tr pn xe) W → PassesOwn (model X.prog X.w) X.A X.env xe → PSs (X.tr pn xe) body (tb W))
    (hh : MixOk X (h₀ :: hds) l) : PS X (.Try body (h₀ :: hds) [] [] pos) (fun D σ H => tb (wMix X.K Wout D l) D σ H) := by
  refine ⟨fun pins s σ H D I h => ?_⟩
  have ok := I.ok
  have hfr : X.A.frames = some (X.env :: X.outer) := by rw [ok.frames, hs]
  refine wpAny_Try_except (wpAny_mono ((hb (wMix X.K Wout D l) (X.pn ++ pins) (fun e s₁ => wpAny (model X.prog X.w) X.A (noteFrame e X.env) (fun _ s₂ => wpAny (model X.prog X.w) X.A (setFlight e none) (fun _ s₃ => wpAny (model X.prog X.w) X.A (handleBy e X.env (h₀ :: hds)) (SP X pins D) X.xe s₃) X.xe s₂) X.xe s₁) (fun u s' xx => ?_) PassesOwn.looking).run [] s σ H D (I.toTry _) h) (fun f s1 hsp => ?_) (fun e s1 he => he))
  · obtain ⟨a, B, sI, pins', σ', H', cls, d, rfl, J', nb, up, sky, na, os, ag, w⟩ := xx
    have J : Inv X pins σ' H' sI := J'.ofTry ok
    have sky2 : Sky B (X.env :: X.outer) a (Zc cls d) X.env.locals s'.heap := by rw [← hs]; exact sky
    show wpAny (model X.prog X.w) X.A (noteFrame (.ref a) X.env) _ _ _
    refine Sky.land Zc.steady hfr hf sky2 fun h3 fl3 up3 => ?_
    have J3 : Inv X pins σ' H' { s' with heap := h3 } := J.landed nb fl3.1 (up.trans up3) os ag
    obtain ⟨oe3, vs3, he3, hz3, hd3⟩ := fl3.there
    have nfr : a ∉ frs (X.env :: X.outer) := fun hm => by
      obtain ⟨_, o', e', hnf⟩ := fl3.2.2.1.mem hm
      rw [he3] at e'; cases e'
      exact hnf _ hd3
    have nL : a ≠ X.env.locals := fun z => nfr (List.mem_filterMap.mpr ⟨X.env, List.mem_cons_self, by rw [hf, z]⟩)
    have nF : a ∉ X.fs := fun hm => by
      obtain ⟨e, he, q⟩ := List.mem_filterMap.mp hm
      exact nfr (List.mem_filterMap.mpr ⟨e, List.mem_cons_of_mem _ he, q⟩)
    have S3 := J3.suite he3 hd3 na nL nF
    have LT : PySem.W.Looks (model X.prog X.w) h3 (typeOf (.ref a)) cls := fun A Q E s k q => wpAny_typeOf_ref (k _ _ he3) (by rw [hz3.1]; exact q)
    have test : ∀ {x : Str} {c : Value} {np : Pos} {Q : Value → Shared → Prop} {E : Value → Shared → Prop}, Names X x c → Q c { s' with heap := h3 } → wpAny (model X.prog X.w) (X.A.mark (some (.ref a))) (eval (.Name x np) X.env) Q E { s' with heap := h3 } := fun {x c np Q E} hc q => by
      obtain ⟨hg, hdbg, hm | ⟨hm, hv, hnn⟩⟩ := hc
      · exact ld_glob (X := X.suite a ((a, oe3) :: (X.pn ++ pins))) S3 hg hm q hdbg
      · exact ld_blt (X := X.suite a ((a, oe3) :: (X.pn ++ pins))) S3 hg hm hv q hnn hdbg
    have go : ∀ {hds' : List ExceptHandler} {l' : List Cl}, MixOk X hds' l' → wMix X.K Wout D l' cls d σ' H' → wpAny (model X.prog X.w) X.A (handleBy (.ref a) X.env hds') (SP X pins D) X.xe { s' with heap := h3 } := by
      intro hds' l' hk
      induction hk with
      | nil =>
        intro w
        refine wpAny_handleBy_nil ?_
        obtain ⟨k1, k2, k3, oe, vs, T, oT, ts', he, hz, hd, h1, hr⟩ := id fl3
        unfold PySem.passOn
        refine wpAny_bind (wpAny_field he hd h1 ?_)
        rw [if_neg (show ¬ ((Value.ref T == Value.none) = true) from by simp)]
        have fin : wpAny (model X.prog X.w) X.A (setFlight (.ref a) X.env.frame) (fun _ s4 => wpAny (model X.prog X.w) X.A (throw (.ref a) : Sem Flow) (SP X pins D) X.xe s4) X.xe { s' with heap := h3 } := by
          rw [hf]
          refine HandSPX.setFlight_upZ fl3 fun h4 hh4 up4 => wpAny_throw (tk _ _ ?_)
          exact ⟨a, B, sI, pins, σ', H', cls, d, rfl, J, nb, (up.trans up3).trans up4, .inr (.inr (by rw [hs]; exact hh4)), na, os, ag, w⟩
        first
          | exact wpAny_bind (wpAny_pure (wpAny_bind fin))
          | exact wpAny_bind fin
      | @bare x c ts b₀ suite np pos' hds2 l2 hc hsu r ih =>
        intro w
        obtain ⟨b, hb1, hyes, hno⟩ := w
        refine wpAny_handleBy_cons (codeAny_handlers_test ?_) (by intro q; cases q)
        refine test hc ((PySem.W.exm_one (M := model X.prog X.w) (J3.kIn) LT hb1).here ?_)
        cases b with
        | true =>
          refine codeAny_handlers_suite (HandSPX.lands_againZ fl3 fun h4 fl4 up4 => ?_)
          have J4 : Inv X pins σ' H' { s' with heap := h4 } := J.landed nb fl4.1 ((up.trans up3).trans up4) os ag
          obtain ⟨oe4, vs4, he4, hz4, hd4⟩ := fl4.there
          refine wpAny_mono ((hsu a oe4 cls d (X.pn ++ pins) hz4 ⟨_, hd4⟩).run [] _ _ H' _ (J4.suite he4 hd4 na nL nF) (hyes rfl a na)) (fun f s6 hsp => ?_) (fun _ _ z => False.elim z)
          cases f with
          | next => obtain ⟨σ6, H6, S6, q6⟩ := hsp; exact ⟨_, _, S6.unsuite ok, q6⟩
          | brk => obtain ⟨σ6, H6, S6, q6⟩ := hsp; exact ⟨_, _, S6.unsuite ok, q6⟩
          | cont => obtain ⟨σ6, H6, S6, q6⟩ := hsp; exact ⟨_, _, S6.unsuite ok, q6⟩
          | ret u => obtain ⟨v6, σ6, H6, S6, r6, q6⟩ := hsp; exact ⟨_, _, _, S6.unsuite ok, r6, q6⟩
        | false =>
          show wpAny _ X.A (handleBy (.ref a) X.env hds2) _ _ _
          exact ih (hno rfl)
      | @as x n i c ts b₀ suite np pos' hds2 l2 hN hi hln hc hsu r ih =>
        intro w
        obtain ⟨b, hb1, hyes, hno⟩ := w
        have hloc : Loc X.env.scope n := .inl hln
        refine wpAny_handleBy_cons (codeAny_handlers_test ?_) (by intro q; cases q)
        refine test hc ((PySem.W.exm_one (M := model X.prog X.w) (J3.kIn) LT hb1).here ?_)
        cases b with
        | true =>
          refine codeAny_handlers_suite_as (HandSPX.lands_againZ fl3 fun h4 fl4 up4 => ?_)
          have J4 : Inv X pins σ' H' { s' with heap := h4 } := J.landed nb fl4.1 ((up.trans up3).trans up4) os ag
          obtain ⟨oe4, vs4, he4, hz4, hd4⟩ := fl4.there
          have S4 := J4.suite he4 hd4 na nL nF
          refine store_ok (X := X.suite a ((a, oe4) :: (X.pn ++ pins))) (v := .ref a) S4 hN hi hloc rfl (fun s5 S5 => ?_) (.inr hln)
          refine wpAny_mono ((hsu a oe4 cls d (X.pn ++ pins) hz4 ⟨_, hd4⟩).run [] s5 _ H' _ S5 (hyes rfl a na)) (fun f s6 hsp => ?_) (fun _ _ z => False.elim z)
          have end_ : ∀ {σ6 : St} {H6 : Hp} {Q : Shared → Prop}, Inv (X.suite a ((a, oe4) :: (X.pn ++ pins))) [] σ6 H6 s6 → (∀ s7, Inv X pins (σ6.set i none) H6 s7 → Q s7) → wpAny (model X.prog X.w) X.A (do bindName X.env n .none; unbindBehindTheSuite X.env n pos') (fun _ s7 => Q s7) X.xe s6 := fun {σ6 H6 Q} S6 hq => gone_ok (S6.unsuite ok) hN hi hln hq
          cases f with
          | next => obtain ⟨σ6, H6, S6, q6⟩ := hsp; exact end_ S6 fun s7 J7 => ⟨_, _, J7, q6⟩
          | brk => obtain ⟨σ6, H6, S6, q6⟩ := hsp; exact end_ S6 fun s7 J7 => ⟨_, _, J7, q6⟩
          | cont => obtain ⟨σ6, H6, S6, q6⟩ := hsp; exact end_ S6 fun s7 J7 => ⟨_, _, J7, q6⟩
          | ret u => obtain ⟨v6, σ6, H6, S6, r6, q6⟩ := hsp; exact end_ S6 fun s7 J7 => ⟨_, _, _, J7, r6, q6⟩
        | false =>
          show wpAny _ X.A (handleBy (.ref a) X.env hds2) _ _ _
          exact ih (hno rfl)
    exact go hh w
  · cases f with
    | next => obtain ⟨σ', H', J', q⟩ := hsp; exact wpAny_execs_nil ⟨σ', H', J'.ofTry ok, q⟩
    | brk => obtain ⟨σ', H', J', q⟩ := hsp; exact ⟨σ', H', J'.ofTry ok, q⟩
    | cont => obtain ⟨σ', H', J', q⟩ := hsp; exact ⟨σ', H', J'.ofTry ok, q⟩
    | ret u => obtain ⟨v, σ', H', J', r, q⟩ := hsp; exact ⟨v, σ', H', J'.ofTry ok, r, q⟩
end
end L2

namespace K
open PySem PySem.Spec PyProof.Rows L2
/-- whether an error of the class at S is what «except C» names -/
theorem exm_pair {K : PySem.W.Frag} {S C : Addr} {b : Bool} (h1 : PySem.W.subIn K (.ref C) (.type "BaseException") = some true) (h2 : PySem.W.isClsIn K C = true) (h3 : PySem.W.typeIn K (.ref C) = some (.type "type")) (h4 : PySem.W.subIn K (.ref S) (.ref C) = some b) : PySem.W.exmOne K (.ref S) (.ref C) = some b := by
  have e1 : (PySem.W.subIn K (.ref C) (.type "BaseException") == some true) = true := by rw [h1] <;> rfl
  have e2 : ((PySem.W.clsIn K C).isSome && PySem.W.typeIn K (.ref C) == some (.type "type")) = true := by
    have h2' : (PySem.W.clsIn K C).isSome = true := h2
    rw [h2', h3] <;> rfl
  show (if (PySem.W.subIn K (.ref C) (.type "BaseException") == some true) = true then (if ((PySem.W.clsIn K C).isSome && PySem.W.typeIn K (.ref C) == some (.type "type")) = true then PySem.W.subIn K (.ref S) (.ref C) else none) else none) = some b
  rw [if_pos e1, if_pos e2]
  exact h4
/-- what the top has written of SlipError and its __init__ -/
structure SlipT (K : PySem.W.Frag) (mg : Str → Option Value) (CS fS : Addr) : Prop where
  g : mg "SlipError" = some (.ref CS)
  r : ClX.CRead K CS (.type "type")
  at_ : PySem.W.findCls K (.ref CS) (.type "type") "__init__" = some (.val (.ref fS))
  kp : PySem.W.keepIn K (.ref fS) = true
  vV : PySem.W.findCls K (.type "ValueError") (.type "type") "__init__" = some (.val (.builtin "ValueError.__init__"))
  mV : mg "ValueError" = none
/-- .. of a refusal's class x at C, its __init__ at fI -/
structure ExcT (K : PySem.W.Frag) (mg : Str → Option Value) (x : Str) (C fI : Addr) : Prop where
  g : mg x = some (.ref C)
  oex : OexC K C
  xf : XfC K C
  iC : PySem.W.findIn K (.ref C) "__init__" = some (some (.ref fI))
  tI : PySem.W.typeIn K (.ref fI) = some (.type "function")
  word : PySem.W.findIn K (.ref C) "word" = some none
def spSlip (K : PySem.W.Frag) : Sp := fun vs H Q _ => ∃ (a C : Addr) (w y : Str), vs = [.ref a, .str w, .str y] ∧ OexC K C ∧ PySem.W.findIn K (.ref C) "word" = some none ∧ H a = some (exo a C none) ∧
  ∀ dx, H dx = none → dx ≠ a → Q .non (upd (upd H dx (exd dx [("word", .str w)])) a (exo a C (some dx)))
/-- C(v): the exception at a gets its fields, newest first, in a new dict; all else stands -/
def spIn1 (K : PySem.W.Frag) (f wd : Str) (ask : Hp → V → Prop) (got : Hp → Hp → V → V → Prop) : Sp := fun vs H Q _ => ∃ (a C : Addr) (v : V), vs = [.ref a, v] ∧ ask H v ∧ OexC K C ∧ PySem.W.findIn K (.ref C) "word" = some none ∧ PySem.W.findIn K (.ref C) f = some none ∧ H a = some (exo a C none) ∧
  ∀ (dx : Addr) (v' : V) (H' : Hp), H dx = none → dx ≠ a → (∀ b o, H b = some o → b ≠ a → H' b = some o) → H' a = some (exo a C (some dx)) → H' dx = some (exd dx [(f, v'), ("word", .str wd)]) → got H H' v v' → Q .non H'
def askInt : Hp → V → Prop := fun _ v => ∃ i : Int, v = .int i ∧ i.natAbs.log2 < 1920
def gotSame : Hp → Hp → V → V → Prop := fun _ _ v v' => v' = v
/-- a list of digits -/
def askLot (K : PySem.W.Frag) : Hp → V → Prop := fun H v => ∃ (l : Addr) (ns : List Int), v = .ref l ∧ H l = some (.lst (ns.map V.int)) ∧ ns.length ≤ 100 ∧ ∀ n ∈ ns, 0 ≤ n ∧ n < 10
def gotLot : Hp → Hp → V → V → Prop := fun H0 H v v' => ∃ (l l' : Addr) (xs : List V), v = .ref l ∧ v' = .ref l' ∧ H l = some (.lst xs) ∧ H l' = some (.lst xs) ∧ l ≠ l' ∧ H0 l' = none
theorem ext_ne_lst {H : Hp} {a b : Addr} {C : Addr} {d : Option Addr} {xs : List V} (h : H a = some (exo a C d)) (h' : H b = some (.lst xs)) : b ≠ a := fun e => by
  subst e
  rw [h] at h'
  cases h'
section
variable {P : Program} {w : World} {K : PySem.W.Frag} {mg : Str → Option Value} {base : Heap}
theorem join2_le {c m : Str} (hc : (Str.empty ++ c).length ≤ 1000) (hm : m.length ≤ 2000) : ((Str.empty ++ c) ++ m).length ≤ sizeLine := by
  rw [strLen_append, sizeLine_eq]
  omega
theorem join3_le {c m e : Str} (hc : (Str.empty ++ c).length ≤ 1000) (hm : m.length ≤ 2000) (he : e.length ≤ 1000) : (((Str.empty ++ c) ++ m) ++ e).length ≤ sizeLine := by
  rw [strLen_append, strLen_append, sizeLine_eq]
  omega
/-- what a raise of such a refusal leaves -/
theorem raised_same {H H2 : Hp} {a d : Addr} {fs : List (Str × V)} (ha : H a = none) (k : ∀ b o, H b = some o → b ≠ a → H2 b = some o) (hd : H d = none) : Same H (upd (del H2 a) d (.xd fs)) := fun b o e => by
  have hb : b ≠ a := ne_of_none e ha
  rw [upd_ne (ne_of_none e hd), del_ne hb]
  exact k b o e hb
end
end K

namespace K
open PySem PySem.Spec PyProof.Rows L2
open Sw (T3 Dist at? relax roundOf rounds IsNext Cand IsFar nbr candL WayTo lotOf)
/-- a def that may raise, as it can be called -/
structure CalX (P : Program) (w : World) (K : PySem.W.Frag) (mg : Str → Option Value) (base : Heap) (k : Nat) (x : Str) (f : Addr) (fd : FuncData) (ps : List Str) (sp : Sp) : Prop where
  ok : FnOk P w K mg base (L2.CX P w) k f fd ps sp
  g : mg x = some (.ref f)
  kp : PySem.W.keepIn K (.ref f) = true
  b : Binds K fd ps []
/-- a refusal's class with the promise of its __init__ -/
structure ExcC (P : Program) (w : World) (K : PySem.W.Frag) (mg : Str → Option Value) (base : Heap) (k : Nat) (x : Str) (C fI : Addr) (fd : FuncData) (ps : List Str) (sp : Sp) : Prop where
  t : ExcT K mg x C fI
  ok : FnOk P w K mg base CX0 k fI fd ps sp
  b : Binds K fd ps []
/-- NoHouse(h), as it is in the air: its dict, new; all else stands -/
def HouseX (CH : Addr) (h : Int) (H : Hp) (E : XK) : Prop := ∀ (d : Addr) (H' : Hp), H d = none → Same H H' → H' d = some (.xd [("house", .int h), ("word", .str "nohouse")]) → E (.ref CH) (some d) H'
def LotX (CW : Addr) (wd : Str) (lot : List Nat) (H : Hp) (E : XK) : Prop := ∀ (d l : Addr) (H' : Hp), H d = none → H l = none → Same H H' → H' d = some (.xd [("lot", .ref l), ("word", .str wd)]) → H' l = some (.lst (lot.map fun h => V.int (h : Nat))) → E (.ref CW) (some d) H'
def spCheckX (CH : Addr) : Sp := fun vs H Q E => ∃ (n : Nat) (h : Int), vs = [.int (n : Nat), .int h] ∧ h.natAbs.log2 < 1920 ∧ (0 ≤ h ∧ h < n → Q .non H) ∧ (¬ (0 ≤ h ∧ h < n) → HouseX CH h H E)
def spReach : Sp := fun vs H Q _ => ∃ (n g : Nat) (t : Addr) (ts : List T3), vs = [.int (n : Nat), .ref t, .int (g : Nat)] ∧ g < n ∧ n ≤ 1000 ∧ TiesAt H t ts ∧ Fits n ts ∧ ∀ p H', H p = none → Same H H' → H' p = some (.lst ((lotOf n (farD n ts g)).map fun h => V.int (h : Nat))) → Q (.ref p) H'
/-- (price, way) -/
def PriceWay (H : Hp) (p : Addr) (c : Nat) (way : List Nat) : Prop := ∃ w : Addr, H p = some (.tup [.int (c : Nat), .ref w]) ∧ H w = some (.tup (way.map fun h => V.int (h : Nat)))
def spLeastX (CH CW : Addr) : Sp := fun vs H Q E => ∃ (n : Nat) (s g : Int) (t : Addr) (ts : List T3), vs = [.int (n : Nat), .ref t, .int s, .int g] ∧ n ≤ 9 ∧ s.natAbs.log2 < 1920 ∧ g.natAbs.log2 < 1920 ∧ TiesAt H t ts ∧ ts.length ≤ 400 ∧ Fits n ts ∧ (∀ e ∈ ts, 1 ≤ e.2.2 ∧ e.2.2 ≤ 9) ∧
  (¬ (0 ≤ s ∧ s < n) → HouseX CH s H E) ∧ (0 ≤ s ∧ s < n → ¬ (0 ≤ g ∧ g < n) → HouseX CH g H E) ∧
  (∀ s' g' : Nat, s = s' → g = g' → s' < n → g' < n → at? (farD n ts g') s' = none → LotX CW "noway" (lotOf n (farD n ts s')) H E) ∧
  (∀ (s' g' c : Nat) (way : List Nat), s = s' → g = g' → s' < n → g' < n → at? (farD n ts g') s' = some c → WayTo (both ts) (farD n ts g') g' s' way → way.length ≤ 100 → ∀ p H', H p = none → Same H H' → PriceWay H' p c way → Q (.ref p) H')
end K

/-! raising out of a named except suite; defs whose exceptions have no context; defs called while an exception is handled -/
namespace L2H
open PySem PySem.Spec PyProof.Rows L2 HotX
/-- the context of an except suite that may raise, its wish xe -/
abbrev suiteA (X : Cx) (a : Addr) (pn : List (Addr × Obj)) (xe : Value → Shared → Prop) : Cx := { X with A := X.A.mark (some (.ref a)), calm := false, pn := pn, xe := xe }
theorem tracedZ_sameBut {h h' base : Heap} {e L : Addr} {Z : Obj → Prop} {fl : Value} {m : Str → Option Value} (x : HandSPX.TracedZ h base e Z fl) (hn : h.Ns L m) (hs : Heap.SameBut L h h') : HandSPX.TracedZ h' base e Z fl := by
  obtain ⟨oe, vs, T, oT, ts, he, hc, hd, h1, hnT, hTe, hT, hdT, h3⟩ := x
  obtain ⟨oL, es, ep, hoL, hdL, _⟩ := hn
  have neE : e ≠ L := fun q => by
    rw [q, hoL] at he
    have z := Option.some.inj he
    rw [← z, hdL] at hd
    cases hd
  have neT : T ≠ L := fun q => by
    rw [q, hoL] at hT
    have z := Option.some.inj hT
    rw [← z, hdL] at hdT
    cases hdT
  exact ⟨oe, vs, T, oT, ts, (hs.2 e neE).trans he, hc, hd, h1, hnT, hTe, (hs.2 T neT).trans hT, hdT, h3⟩
section
variable {X : Cx} {pins : List (Addr × Obj)} {σ : L2.St} {H : Hp} {s : Shared} {i : Nat} {n : Str}
/-- the name's slot out of hand: any state that differs at the def's own names only -/
theorem inv_gone {h' : Heap} {v : Option Value} {m : Str → Option Value} {t' : Nat} (I : Inv X pins σ H s) (hN : X.N.Nodup) (hi : X.N[i]? = some n) (hn0 : s.heap.Ns X.env.locals m)
    (hn' : h'.Ns X.env.locals (fun x => if x = n then v else m x)) (hs : Heap.SameBut X.env.locals s.heap h') : Inv X pins (σ.set i none) H { s with heap := h', toks := t' } := by
  obtain ⟨mI, hnI, hlk⟩ := id I.loc
  have em : ∀ y, mI y = m y := fun y => by
    obtain ⟨o1, es1, ep1, e1, d1, k1, f1⟩ := hnI
    obtain ⟨o2, es2, ep2, e2, d2, k2, f2⟩ := hn0
    rw [e1] at e2
    cases e2
    rw [d1] at d2
    cases d2
    rw [← f1 y, ← f2 y]
  have neL : ∀ b o, X.s_0.heap.get? b = some o → b ≠ X.env.locals := fun b o e => Nat.ne_of_lt (Nat.lt_of_lt_of_le (Heap.lt_size e) I.ok.above)
  refine ⟨I.ok, I.os, I.bare, ⟨fun b o e n hb hx => ?_, fun b o e n hb hx => ?_, I.base.free, fun b o e hx => ?_, I.base.tups, I.base.frzs, I.base.tbls⟩, ⟨_, hn', fun j y v' e1 e2 e3 => ?_⟩, fun y c e => ?_, I.free, I.freeC, fun p hp => ?_, fun b ob e => ?_, by simpa using I.len⟩
  · exact (hs.2 b (neL b o e)).trans (I.base.keep b o e n hb hx)
  · obtain ⟨sl, e1⟩ := I.base.slot b o e n hb hx
    exact ⟨sl, (hs.2 b (neL b o e)).trans e1⟩
  · obtain ⟨o', e1⟩ := I.base.there b o e hx
    exact ⟨o', (hs.2 b (neL b o e)).trans e1⟩
  · by_cases hj : j = i
    · subst hj
      by_cases hlt : j < σ.length
      · rw [List.getElem?_set_self hlt] at e2; cases e2
      · rw [List.getElem?_eq_none (by simpa using hlt)] at e2; cases e2
    · rw [List.getElem?_set_ne (Ne.symm hj)] at e2
      obtain ⟨u', r', q⟩ := hlk j y v' e1 e2 e3
      refine ⟨u', r', ?_⟩
      rcases q with ⟨k, e⟩ | ⟨k, c, e, z⟩
      · have ny : y ≠ n := fun e => hj (nodup_ix hN e1 (e ▸ hi))
        exact .inl ⟨k, (if_neg ny).trans ((em y).symm.trans e)⟩
      · exact .inr ⟨k, c, e, z.sameBut hs (I.cne y c e)⟩
  · obtain ⟨w', z⟩ := I.cell y c e
    exact ⟨w', z.sameBut hs (I.cne y c e)⟩
  · obtain ⟨e, n, ne, nf, d⟩ := I.pin p hp
    exact ⟨(hs.2 p.1 ne).trans e, n, ne, nf, d⟩
  · refine (I.hok b ob e).stay (fun c w' hc q => (hs.2 c ?_).trans q) (fun _ q => q) fun _ _ q => q
    intro z
    subst z
    rcases hc with hc | hc
    · rw [← hc, I.free] at e; cases e
    · rw [I.free] at hc; cases hc
/-- what flies out of a named suite: it is noted, the name goes, it is passed on and comes back into the def's own activation -/
theorem takes_as {a : Addr} {q : Addr × Obj} {pos : Pos} {Wout : WX} {xe E₁ E₂ : Value → Shared → Prop} (hs : X.stack = X.env :: X.outer) (hf : X.env.frame = some X.env.locals) (hN : X.N.Nodup) (hi : X.N[i]? = some n) (hln : X.env.kindOf n = some .local) (tk : L2.Takes X Wout) (ok : X.Ok)
    {u : Value} {s' : Shared} (x : L2.XE (suiteA X a (q :: (X.pn ++ pins)) xe) (fun c d σ H => Wout c d (σ.set i none) H) u s') :
    wpAny (model X.prog X.w) (X.A.mark (some (.ref a))) (noteFrame u X.env) (fun _ s₃ => wpAny (model X.prog X.w) (X.A.mark (some (.ref a))) (do bindName X.env n .none; unbindBehindTheSuite X.env n pos)
      (fun _ s₄ => wpAny (model X.prog X.w) (X.A.mark (some (.ref a))) (passOn "try.except-as" u X.env : Sem Flow) (fun _ _ => False) (notedBy (model X.prog X.w) (X.A.mark (some (.ref a))) X.env (cameBackBy (model X.prog X.w) X.A X.env X.xe)) s₄) E₂ s₃) E₁ s' := by
  obtain ⟨a2, B, sI, pn2, σ, H, cls, d, rfl, I, nb, up, sky, na, os, ag, w⟩ := x
  have J : Inv X pins σ H sI := Inv.unsuite (X := X) (a := a) (q := q) (pn' := pn2) (show Inv (X.suite a (q :: (X.pn ++ pins))) pn2 σ H sI from I.wish fun _ _ => False) ok
  have hfr : (X.A.mark (some (.ref a))).frames = some (X.env :: X.outer) := by
    show X.A.frames = _
    rw [ok.frames, hs]
  have sky : Sky B (X.env :: X.outer) a2 (Zc cls d) X.env.locals s'.heap := by rw [← hs]; exact sky
  have nb : ∀ b o, sI.heap.get? b = some o → b ∉ frs X.stack → B.get? b = some o := nb
  have hcls : (X.env.scope.kind == .class || (X.env.scope.kind == .module && X.env.locals != X.env.globals)) = false := by rw [ok.kind]; rfl
  obtain ⟨mI, hnI, _⟩ := id J.loc
  have fin : ∀ h1, HandSPX.HeldZ B (X.env :: X.outer) a2 (Zc cls d) X.env.locals h1 → s'.heap.UpToSlots h1 → wpAny (model X.prog X.w) (X.A.mark (some (.ref a))) (do bindName X.env n .none; unbindBehindTheSuite X.env n pos)
      (fun _ s₄ => wpAny (model X.prog X.w) (X.A.mark (some (.ref a))) (passOn "try.except-as" (.ref a2) X.env : Sem Flow) (fun _ _ => False) (notedBy (model X.prog X.w) (X.A.mark (some (.ref a))) X.env (cameBackBy (model X.prog X.w) X.A X.env X.xe)) s₄) E₂ { s' with heap := h1 } := by
    intro h1 hh up1
    have upA := up.trans up1
    have hn : h1.Ns X.env.locals mI := upA.ns hnI
    have hbL : B.get? X.env.locals = none := by
      obtain ⟨_, ⟨L', _, hf', hb', _⟩, _⟩ := hh.2.2.1
      rw [hf] at hf'
      rw [Option.some.inj hf']
      exact hb'
    refine wpAny_nameGoes_keeps hln hn hcls fun h2 v hn2 hs2 => ?_
    have hh2 : HandSPX.HeldZ B (X.env :: X.outer) a2 (Zc cls d) X.env.locals h2 :=
      ⟨fun b o hb => (hs2.2 b fun z => by rw [z, hbL] at hb; cases hb).trans (hh.1 b o hb), hh.2.1, Heap.FunFrames.sameBut hs2 hn2 hh.2.2.1, tracedZ_sameBut hh.2.2.2 hn hs2⟩
    obtain ⟨oe, vs, T, oT, ts, he, hz, hd, h1', r⟩ := id hh2.2.2.2
    unfold PySem.passOn
    refine wpAny_bind (wpAny_field he hd h1' ?_)
    rw [if_neg (show ¬ ((Value.ref T == Value.none) = true) from by simp)]
    rw [hf]
    have go : wpAny (model X.prog X.w) (X.A.mark (some (.ref a))) (setFlight (.ref a2) (some X.env.locals)) (fun _ s4 => wpAny (model X.prog X.w) (X.A.mark (some (.ref a))) (throw (.ref a2) : Sem Flow) (fun _ _ => False) (notedBy (model X.prog X.w) (X.A.mark (some (.ref a))) X.env (cameBackBy (model X.prog X.w) X.A X.env X.xe)) s4) (notedBy (model X.prog X.w) (X.A.mark (some (.ref a))) X.env (cameBackBy (model X.prog X.w) X.A X.env X.xe)) { s' with heap := h2, toks := s'.toks + 1 } := by
      refine HandSPX.setFlight_onZ hh2 fun h3 hh3 up3 => wpAny_throw ?_
      show wpAny _ _ (noteFrame (.ref a2) X.env) _ _ _
      refine HandSPX.againZ hf hh3.2.2.2 ?_
      obtain ⟨oe3, vs3, T3, oT3, ts3, he3, hz3, hd3, h13, r3⟩ := id hh3.2.2.2
      show wpAny _ X.A (do
        if (← field (.ref a2) 1) == .none then unsupported "frame.own-activation:exception-without-traceback"
        setFlight (.ref a2) X.env.frame) _ _ _
      refine wpAny_bind (wpAny_field he3 hd3 h13 ?_)
      rw [if_neg (show ¬ ((Value.ref T3 == Value.none) = true) from by simp)]
      rw [hf]
      refine HandSPX.setFlight_onZ hh3 fun h4 hh4 up4 => tk _ _ ?_
      obtain ⟨oL, es, ep, hoL, hdL, hkL, hfL⟩ := id hn2
      obtain ⟨oI, esI, epI, hoI, hdI, _⟩ := id hnI
      have eL : (sI.heap.update X.env.locals fun _ => oL).get? X.env.locals = some oL := Heap.get?_update_self (fun _ => oL) hoI (Obj.isFreed_of_dict hdL)
      have eO : ∀ b, b ≠ X.env.locals → (sI.heap.update X.env.locals fun _ => oL).get? b = sI.heap.get? b := fun b hb => Heap.get?_update_other _ _ (Ne.symm hb)
      have J2 : Inv X pins (σ.set i none) H { sI with heap := sI.heap.update X.env.locals fun _ => oL, toks := sI.toks } :=
        inv_gone (t' := sI.toks) (m := mI) (v := v) J hN hi hnI ⟨oL, es, ep, eL, hdL, hkL, hfL⟩ (Heap.SameBut.update _ _ _)
      have upB := up3.trans up4
      refine ⟨a2, B, _, pins, _, H, cls, d, rfl, J2, fun b o e hb => ?_, fun b o e hnf => ?_, .inr (.inr (by rw [hs]; exact hh4)), na, os, ag, w⟩
      · have hbL2 : b ≠ X.env.locals := fun z => hb (by rw [z, hs]; exact List.mem_filterMap.mpr ⟨X.env, List.mem_cons_self, hf⟩)
        exact nb b o ((eO b hbL2).symm.trans e) hb
      · by_cases hbL2 : b = X.env.locals
        · subst hbL2
          have e' : some oL = some o := eL.symm.trans e
          cases e'
          exact upB _ _ hoL hnf
        · obtain ⟨sl, e1⟩ := upA b o ((eO b hbL2).symm.trans e) hnf
          obtain ⟨sl2, e2⟩ := upB b _ ((hs2.2 b hbL2).trans e1) hnf
          exact ⟨sl2, e2⟩
    first
      | exact wpAny_bind (wpAny_pure (wpAny_bind go))
      | exact wpAny_bind go
  rcases sky with ⟨hB, hn, hl, oe, vs, he, hz, hd, h1⟩ | fl | hh
  · exact HandSPX.look_newZ Zc.steady hfr hl hf he hB hn hd h1 hz fin
  · exact HandSPX.looks_onZ Zc.steady hfr hf fl fin
  · exact HandSPX.againZ hf hh.2.2.2 (fin s'.heap hh (Heap.UpToSlots.refl _))
end
section
variable {X : Cx} {x n : Str} {c : Value} {i : Nat} {body suite : List Stmt} {b₀ : Stmt} {np pos pos' : Pos} {tb : WX → TS} {ts : Addr → Value → Option Addr → TS} {Wout : WX}
/-- try: body, except x as n: suite that may raise out -/
theorem ps_try_asX (hs : X.stack = X.env :: X.outer) (hf : X.env.frame = some X.env.locals) (hN : X.N.Nodup) (hi : X.N[i]? = some n) (hln : X.env.kindOf n = some .local) (hc : Names X x c) (tk : L2.Takes X Wout)
    (hb : ∀ (W : WX) (pn : List (Addr × Obj)) (xe : Value → Shared → Prop), L2N.Takes (X.tr pn xe) W → PassesOwn (model X.prog X.w) X.A X.env xe → PSs (X.tr pn xe) body (tb W))
    (hsu : ∀ (a : Addr) (oe : Obj) (cls : Value) (d : Option Addr) (pn : List (Addr × Obj)) (xe : Value → Shared → Prop), L2N.Zn cls d oe → (∃ vs, oe.data = .fields vs) → L2.Takes (suiteA X a ((a, oe) :: pn) xe) (fun c d σ H => Wout c d (σ.set i none) H) → HotC (suiteA X a ((a, oe) :: pn) xe) →
      PSs (suiteA X a ((a, oe) :: pn) xe) (b₀ :: suite) (ts a cls d)) :
    PS X (.Try body [.ExceptHandler (some (.Name x np)) (some n) (b₀ :: suite) pos'] [] [] pos) (fun D σ H => tb (wAs X.K c i ts Wout D) D σ H) := by
  refine ⟨fun pins s σ H D I h => ?_⟩
  have ok := I.ok
  have hfr : X.A.frames = some (X.env :: X.outer) := by rw [ok.frames, hs]
  have hloc : Loc X.env.scope n := .inl hln
  refine wpAny_Try_except ?_
  refine wpAny_mono ((hb (wAs X.K c i ts Wout D) (X.pn ++ pins) (fun e s₁ => wpAny (model X.prog X.w) X.A (noteFrame e X.env) (fun _ s₂ => wpAny (model X.prog X.w) X.A (setFlight e none) (fun _ s₃ =>
    wpAny (model X.prog X.w) X.A (handleBy e X.env [.ExceptHandler (some (.Name x np)) (some n) (b₀ :: suite) pos']) (SP X pins D) X.xe s₃) X.xe s₂) X.xe s₁) (fun u s' xx => ?_) PassesOwn.looking).run [] s σ H D (I.toTry _) h) (fun f s1 hsp => ?_) (fun e s1 he => he)
  · obtain ⟨a, B, sI, pins', σ', H', cls, d, rfl, J', nb, up, sky, na, os, ag, b, hb1, hyes, hno⟩ := xx
    have J : Inv X pins σ' H' sI := J'.ofTry ok
    have sky' : Sky B (X.env :: X.outer) a (L2N.Zn cls d) X.env.locals s'.heap := by rw [← hs]; exact sky
    show wpAny (model X.prog X.w) X.A (noteFrame (.ref a) X.env) _ _ _
    refine L2N.Sky.land L2N.Zn.steady hfr hf sky' fun h3 fl3 up3 => ?_
    have J3 : Inv X pins σ' H' { s' with heap := h3 } := J.landed nb fl3.1 (up.trans up3) os ag
    obtain ⟨oe3, vs3, he3, hz3, hd3⟩ := fl3.there
    have nfr : a ∉ frs (X.env :: X.outer) := fun hm => by
      obtain ⟨_, o', e', hnf⟩ := fl3.2.2.1.mem hm
      rw [he3] at e'; cases e'
      exact hnf _ hd3
    have nL : a ≠ X.env.locals := fun z => nfr (List.mem_filterMap.mpr ⟨X.env, List.mem_cons_self, by rw [hf, z]⟩)
    have nF : a ∉ X.fs := fun hm => by
      obtain ⟨e, he, q⟩ := List.mem_filterMap.mp hm
      exact nfr (List.mem_filterMap.mpr ⟨e, List.mem_cons_of_mem _ he, q⟩)
    have S3 := J3.suite he3 hd3 na nL nF
    refine wpAny_handleBy_cons (codeAny_handlers_test ?_) (by intro q; cases q)
    have LT : PySem.W.Looks (model X.prog X.w) h3 (typeOf (.ref a)) cls := fun A Q E s k q => wpAny_typeOf_ref (k _ _ he3) (by rw [hz3.1]; exact q)
    have LM := PySem.W.exm_one (M := model X.prog X.w) (J3.kIn) LT hb1
    have test : ∀ {Q : Value → Shared → Prop} {E : Value → Shared → Prop}, Q c { s' with heap := h3 } → wpAny (model X.prog X.w) (X.A.mark (some (.ref a))) (eval (.Name x np) X.env) Q E { s' with heap := h3 } := fun {Q E} q => by
      obtain ⟨hg, hdbg, hm | ⟨hm, hv, hnn⟩⟩ := hc
      · exact ld_glob (X := X.suite a ((a, oe3) :: (X.pn ++ pins))) S3 hg hm q hdbg
      · exact ld_blt (X := X.suite a ((a, oe3) :: (X.pn ++ pins))) S3 hg hm hv q hnn hdbg
    refine test (LM.here ?_)
    cases b with
    | true =>
      refine codeAny_handlers_suite_as ?_
      refine HandSPX.lands_againZ fl3 fun h4 fl4 up4 => ?_
      have J4 : Inv X pins σ' H' { s' with heap := h4 } := J.landed nb fl4.1 ((up.trans up3).trans up4) os ag
      obtain ⟨oe4, vs4, he4, hz4, hd4⟩ := fl4.there
      have S4 := J4.suite he4 hd4 na nL nF
      refine store_ok (X := X.suite a ((a, oe4) :: (X.pn ++ pins))) (v := .ref a) S4 hN hi hloc rfl (fun s5 S5 => ?_) (.inr hln)
      have hot : ∀ xe, HotC (suiteA X a ((a, oe4) :: (X.pn ++ pins)) xe) := fun xe => ⟨(a, oe4), ⟨rfl, vs4, hd4, hz4.2.2 vs4 hd4⟩, List.mem_cons_self⟩
      have end_ : ∀ {σ6 : L2.St} {H6 : Hp} {s6 : Shared} {Q : Shared → Prop} {xe : Value → Shared → Prop} {E : Value → Shared → Prop}, Inv (suiteA X a ((a, oe4) :: (X.pn ++ pins)) xe) [] σ6 H6 s6 → (∀ s7, Inv X pins (σ6.set i none) H6 s7 → Q s7) → wpAny (model X.prog X.w) X.A (do bindName X.env n .none; unbindBehindTheSuite X.env n pos') (fun _ s7 => Q s7) E s6 := fun {σ6 H6 s6 Q xe E} S6 hq =>
        gone_ok (Inv.unsuite (X := X) (a := a) (q := (a, oe4)) (pn' := []) (show Inv (X.suite a ((a, oe4) :: (X.pn ++ pins))) [] σ6 H6 s6 from S6.wish fun _ _ => False) ok) hN hi hln hq
      refine wpAny_mono ((hsu a oe4 cls d (X.pn ++ pins) _ hz4 ⟨_, hd4⟩ (fun u s' x => takes_as (pins := pins) (pos := pos') hs hf hN hi hln tk ok x) (hot _)).run [] s5 _ H' _ (Inv.unwish (X := suiteA X a ((a, oe4) :: (X.pn ++ pins)) _) (E := fun _ _ => False) S5) (hyes rfl a na)) (fun f s6 hsp => ?_) (fun _ _ z => z)
      cases f with
      | next => obtain ⟨σ6, H6, S6, q6⟩ := hsp; exact end_ S6 fun s7 J7 => ⟨_, _, J7, q6⟩
      | brk => obtain ⟨σ6, H6, S6, q6⟩ := hsp; exact end_ S6 fun s7 J7 => ⟨_, _, J7, q6⟩
      | cont => obtain ⟨σ6, H6, S6, q6⟩ := hsp; exact end_ S6 fun s7 J7 => ⟨_, _, J7, q6⟩
      | ret u => obtain ⟨v6, σ6, H6, S6, r6, q6⟩ := hsp; exact end_ S6 fun s7 J7 => ⟨_, _, _, J7, r6, q6⟩
    | false =>
      show wpAny _ X.A (handleBy (.ref a) X.env []) _ _ _
      refine wpAny_handleBy_nil ?_
      have fl3' := flyingZ_imp (Z' := Zc cls d) (fun o z => z.zc) fl3
      obtain ⟨k1, k2, k3, oe, vs, T, oT, ts', he, hz, hd, h1, hr⟩ := id fl3'
      unfold PySem.passOn
      refine wpAny_bind (wpAny_field he hd h1 ?_)
      rw [if_neg (show ¬ ((Value.ref T == Value.none) = true) from by simp)]
      have fin : wpAny (model X.prog X.w) X.A (setFlight (.ref a) X.env.frame) (fun _ s4 => wpAny (model X.prog X.w) X.A (throw (.ref a) : Sem Flow) (SP X pins D) X.xe s4) X.xe { s' with heap := h3 } := by
        rw [hf]
        refine HandSPX.setFlight_upZ fl3' fun h4 hh4 up4 => wpAny_throw (tk _ _ ?_)
        exact ⟨a, B, sI, pins, σ', H', cls, d, rfl, J, nb, (up.trans up3).trans up4, .inr (.inr (by rw [hs]; exact hh4)), na, os, ag, hno rfl⟩
      first
        | exact wpAny_bind (wpAny_pure (wpAny_bind fin))
        | exact wpAny_bind fin
  · cases f with
    | next => obtain ⟨σ', H', J', q⟩ := hsp; exact wpAny_execs_nil ⟨σ', H', J'.ofTry ok, q⟩
    | brk => obtain ⟨σ', H', J', q⟩ := hsp; exact ⟨σ', H', J'.ofTry ok, q⟩
    | cont => obtain ⟨σ', H', J', q⟩ := hsp; exact ⟨σ', H', J'.ofTry ok, q⟩
    | ret u => obtain ⟨v, σ', H', J', r, q⟩ := hsp; exact ⟨v, σ', H', J'.ofTry ok, r, q⟩
end
end L2H
namespace L2
open PySem PySem.Spec PyProof.Rows L2H HotX
section
variable {P : Program} {w : World} {K : PySem.W.Frag} {mg : Str → Option Value} {base : Heap}
/-- as Fun.okX, for a def whose exceptions have no context -/
theorem Fun.okN {x qual : Str} {st : Stmt} {f : Addr} {fd : FuncData} {N ps : List Str} {k : Nat} {sp : Sp} (F : Fun K x qual st f fd) (S : FnScope N ps (defScope st)) (len : ∀ vs H Q E, sp vs H Q E → vs.length = ps.length)
    (hbody : ∀ (cdv : Value) (A : Around) (outer : List Env) (s : Shared) (H : Hp) (vs : List V) (Q : VK) (E : XK), Room k (A.deeper (envOfC qual (defScope st) s.heap.objs.size f cdv)) → sp vs H Q E →
      ∃ t, PSs (cxOf (L2N.CX P w) P w K mg base N qual (defScope st) f cdv A outer s H E) (defBody st) t ∧ t { nx := fun _ H' => Q .non H', rt := Q } (start N vs) H) : FnOk P w K mg base (L2N.CX P w) (k + 1) f fd ps sp := by
  obtain ⟨oc, od, kV, doc, pm, an, cdv, ct, osl, rfl, lk, hcd⟩ := F.ex
  exact fn_of lk hcd S len fun A outer s H vs Q E hr hsp => hbody cdv A outer s H vs Q E hr hsp
theorem FnOk.toX {k : Nat} {f : Addr} {fd : FuncData} {ps : List Str} {sp : Sp} (F : FnOk P w K mg base (L2N.CX P w) k f fd ps sp) : FnOk P w K mg base (L2.CX P w) k f fd ps sp :=
  ⟨F.len, fun A outer s H args us vs Q E hr e b r h => codeAny_mono (F.run A outer s H args us vs Q E hr e b r h) fun r s' q => by
    cases r with
    | error e =>
      obtain ⟨a, B, H', cls, d, e1, fl, hok, ub, na, os, ag, hE⟩ := q
      exact ⟨a, B, H', cls, d, e1, flyingZ_imp (fun o z => z.zc) fl, hok, ub, na, os, ag, hE⟩
    | ok fl => cases fl <;> exact q⟩
theorem _root_.L2H.RoomH.u2 {k : Nat} {A : Around} (r : RoomH k A) : A.units + 2 < cLine := by have := r.un; omega
/-- a def's promise while an exception is handled -/
theorem Fun.okH {x qual : Str} {st : Stmt} {f : Addr} {fd : FuncData} {N ps : List Str} {k : Nat} {sp : Sp} (F : Fun K x qual st f fd) (S : FnScope N ps (defScope st)) (len : ∀ vs H Q E, sp vs H Q E → vs.length = ps.length)
    (hbody : ∀ (cdv : Value) (A : Around) (outer : List Env) (s : Shared) (H : Hp) (vs : List V) (Q : VK) (E : XK) (p : Addr × Obj), Hot1 A p → RoomH k (A.deeper (envOfC qual (defScope st) s.heap.objs.size f cdv)) → sp vs H Q E →
      ∃ t, PSs (cxH CX0 P w K mg base N qual (defScope st) f cdv A outer s H E p).nox (defBody st) t ∧ t { nx := fun _ H' => Q .non H', rt := Q } (start N vs) H) : FnH P w K mg base CX0 (k + 1) f fd ps sp := by
  obtain ⟨oc, od, kV, doc, pm, an, cdv, ct, osl, rfl, lk, hcd⟩ := F.ex
  refine fn_ofH lk hcd S len fun A outer s H vs Q E p hp hr hsp => ?_
  obtain ⟨t, h, q⟩ := hbody cdv A outer s H vs Q E p hp hr hsp
  exact ⟨t, h.nox, q⟩
theorem FunD.okH {x qual : Str} {params : Arguments} {body : List Stmt} {scope : Scope} {dvs : List V} {f : Addr} {fd : FuncData} {N ps : List Str} {k : Nat} {sp : Sp} (F : FunD K x qual params body scope dvs [] f fd) (S : FnScope N ps scope) (len : ∀ vs H Q E, sp vs H Q E → vs.length = ps.length)
    (hbody : ∀ (cdv : Value) (A : Around) (outer : List Env) (s : Shared) (H : Hp) (vs : List V) (Q : VK) (E : XK) (p : Addr × Obj), Hot1 A p → RoomH k (A.deeper (envOfC qual scope s.heap.objs.size f cdv)) → sp vs H Q E →
      ∃ t, PSs (cxH CX0 P w K mg base N qual scope f cdv A outer s H E p).nox body t ∧ t { nx := fun _ H' => Q .non H', rt := Q } (start N vs) H) : FnH P w K mg base CX0 (k + 1) f fd ps sp := by
  obtain ⟨⟨oc, od, dV, kV, doc, pm, an, cdv, ct, osl, rfl, lk, hcd, _⟩, _⟩ := F
  refine fn_ofH lk hcd S len fun A outer s H vs Q E p hp hr hsp => ?_
  obtain ⟨t, h, q⟩ := hbody cdv A outer s H vs Q E p hp hr hsp
  exact ⟨t, h.nox, q⟩
end
theorem hotC_cxH {CX : CXT} {P : Program} {w : World} {K : PySem.W.Frag} {mg : Str → Option Value} {base : Heap} {N : List Str} {qual : Str} {scope : Scope} {f : Addr} {cd : Value} {A : Around} {outer : List Env} {s : Shared} {H : Hp} {E : XK} {p : Addr × Obj} (h : Hot1 A p) :
    HotC (cxH CX P w K mg base N qual scope f cd A outer s H E p).nox := ⟨p, ⟨h.1, h.2⟩, List.mem_cons_self⟩
section
variable {X : Cx}
/-- C.m(e, ..) while an exception is handled -/
theorem pe_clsfH {CX : CXT} {k : Nat} {C f : Addr} {fd : FuncData} {ps : List Str} {mc : Value} {sp : Sp} {E : XK} {o e : Expr} {es : List Expr} {m : Str} {pos apos : Pos} {ta : TE} {t : TA} {pl : Sem Bool} (he : PE X o ta) (r : ClX.CRead X.K C mc) (at_ : PySem.W.findCls X.K (.ref C) mc m = some (.val (.ref f)))
    (F : FnH X.prog X.w X.K X.mg X.base CX k f fd ps sp) (hr : RoomH k X.A) (hc : HotC X) (hk : PySem.W.keepIn X.K (.ref f) = true) (hb : Binds X.K fd ps []) (hx : ∀ σ, PassesAt CX X σ E) (ha : PA X (e :: es) t)
    (hst : starEach (e :: es) X.env = (false, eval e X.env) :: starEach es X.env := by rfl) (hpl : (backTo pos (starEach es X.env)).any (·.1) = false := by rfl)
    (ht : eval (.Call (.Attribute o m apos) (e :: es) [] pos) X.env = (do
      let ov ← eval o X.env
      standAt apos.atName
      let (f, first) ← holding [ov] (getMethod ov m pl)
      callWith pos f first (backTo pos (starEach (e :: es) X.env)) (backToKw pos (keywordEach [] X.env))) := by rfl) :
    PE X (.Call (.Attribute o m apos) (e :: es) [] pos) (tClsF C sp E ta t) := by
  refine ⟨fun pins s σ H Q I h => ?_⟩
  refine PySem.W.methodCall_KW (pl := pl) (thn (he.run pins s σ H _ I h) fun u s1 ⟨x, H1, I1, rx, ex, q⟩ => ?_) ht
  subst ex
  obtain rfl : u = Value.ref C := rx
  refine PySem.W.method_cls I1.kIn r.ga (ClX.getcval_ok (v := .ref f) I1 r ⟨at_, rfl⟩ fun s2 I2 => ?_)
  refine PySem.W.callWith_K (h₀ := X.base) I2.ok.mod.kin hk (thn (ha.run pos pins s2 σ H1 _ I2 q) fun us s3 ⟨vs, H2, I3, rv, q2⟩ => ⟨I3.kIn, ?_⟩) hst hpl
  exact run_fnH (E := fun _ => E) F hr hc hb (hx σ) I3 rv q2
/-- C(e, ..), an exception with no context -/
theorem pmkN_oex {CX : CXT} {x : Str} {e : Expr} {es : List Expr} {ta : TA} {p pos : Pos} {C fI : Addr} {k : Nat} {fd : FuncData} {ps : List Str} {sp : Sp} {ds : List Value} {dvs : List V} (T : OexC X.K C) (iC : PySem.W.findIn X.K (.ref C) "__init__" = some (some (.ref fI))) (tI : PySem.W.typeIn X.K (.ref fI) = some (.type "function"))
    (F1 : FnOk X.prog X.w X.K X.mg X.base CX k fI fd ps sp) (hr : Room (k + 1) X.A) (hb : Binds X.K fd ps ds) (hd : Vals dvs ds) (hx : Passes CX X (fun _ _ _ => False)) (hg : Gl X x) (hm : X.mg x = some (.ref C)) (ha : PA X (e :: es) ta)
    (hdb : (x == ("__debug__" : Str)) = false := by decide) (he : starEach (e :: es) X.env = (false, eval e X.env) :: starEach es X.env := by rfl) (hpl : (backTo pos (starEach es X.env)).any (·.1) = false := by rfl) :
    L2N.PMk X (.Call (.Name x p) (e :: es) [] pos) (tMkO C sp dvs ta) := by
  intro pins s σ H Q I h
  obtain ⟨nm, q, N, bs, bm, sn, sub, ab, col, dd, k0, k1, k2, k3, k5, hC, hbm⟩ := T.cls
  refine wpAny_Call_Name_kw (ld_glob I hg hm ?_ hdb)
  refine PySem.W.callWith_K (h₀ := X.base) I.ok.mod.kin T.kC (thn (ha.run pos pins s σ H _ I h) fun us s1 ⟨vs, H1, I1, r1, hz, q1⟩ => ⟨I1.kIn, ?_⟩) he hpl
  show wpAny _ _ (call (.ref C) us) _ _ _
  obtain ⟨hp, g, dr, tk, os⟩ := s1
  have hsz : hp.objs.size ≤ hp.objs.size + 1 := Nat.le_succ _
  have hn : H1 (hp.objs.size + 1) = none := I1.hok.fresh hsz
  have hq := q1 (hp.objs.size + 1) hn
  have kk : ∀ b o, hp.get? b = some o → ((hp.push (PySem.W.kdv_tup us)).push (PySem.HandSPX.excO C hp.objs.size)).get? b = some o := fun b o e => Heap.get?_push_of_some _ (Heap.get?_push_of_some _ e)
  have hget : ((hp.push (PySem.W.kdv_tup us)).push (PySem.HandSPX.excO C hp.objs.size)).get? (hp.objs.size + 1) = some (PySem.HandSPX.excO C hp.objs.size) := by heap_get
  have I2 : Inv X pins σ (upd H1 (hp.objs.size + 1) (exo (hp.objs.size + 1) C none)) ⟨(hp.push (PySem.W.kdv_tup us)).push (PySem.HandSPX.excO C hp.objs.size), g, dr, tk, os⟩ :=
    I1.laid (t' := tk) (a := hp.objs.size + 1) (o := exo (hp.objs.size + 1) C none) (h' := (hp.push (PySem.W.kdv_tup us)).push (PySem.HandSPX.excO C hp.objs.size)) kk hsz (exo_ok hget)
  have r2 : Vals (V.ref (hp.objs.size + 1) :: (vs ++ dvs)) (Value.ref (hp.objs.size + 1) :: (us ++ ds)) := .cons rfl (r1.append hd)
  have hl : (Value.ref (hp.objs.size + 1) :: us ++ ds).length = ps.length := by
    have e := r2.length
    rw [F1.len _ _ _ _ hq] at e
    exact e.symm
  have hus : us.length ≤ sizeLine := by
    rw [← Paired.length r1, sizeLine_eq]
    omega
  refine wpAny_call (PySem.HandSPX.call_own F.excBase_ValueError (fun Y => PySem.HandSPX.refsVE_contains Y bm hbm) (I1.kIn _ _ hC) (PySem.W.looks_findIn I1.kIn iC) (fun self => PySem.W.bind_fn I1.kIn self tI) hus
    (codeAny_mono (F1.run _ X.stack _ _ ⟨Value.ref (hp.objs.size + 1) :: us, []⟩ (Value.ref (hp.objs.size + 1) :: (us ++ ds)) _ _ (fun _ _ _ => False) (hr.make C us []) (I2.env0.make C us []) (hb _ (Value.ref (hp.objs.size + 1) :: us) I2.kIn hl) r2 hq) fun r s' hq' => ?_))
  cases r with
  | error er => exact hx pins σ _ _ er s' I2 hq'
  | ok fl =>
    cases fl with
    | ret u =>
      obtain ⟨v, H2, os2, bare2, un2, hok2, rv, ev, d, fs, ea, ed, hd1, q2⟩ := hq'
      subst ev
      obtain ⟨h2, g2, d2, t2, os'⟩ := s'
      obtain ⟨t0, G, J, kG, ge, hoe, na⟩ := mk_end0 (d2 := d2) (t2 := t2) I1 hsz kk un2 hok2 os2 bare2 ea ed hd1
      refine ⟨rv, hp.objs.size + 1, _, _, ⟨G, g2, d2, t2, os'⟩, _, .ref C, some d, rfl, J, kG, ge, hoe, ⟨rfl, rfl, fun vs hv => ?_⟩, rfl, rfl, na, rfl, bare2, raises_own T.exC T.tyC, q2⟩
      cases hv
      rfl
    | next => exact False.elim hq'
    | brk => exact False.elim hq'
    | cont => exact False.elim hq'
theorem pass0H {X : Cx} {E : XK} : ∀ σ, PassesAt CX0 X σ E := fun _ _ _ _ _ _ _ h => h.elim
end
end L2
namespace K
open PySem PySem.Spec PyProof.Rows L2
open Sw (T3 Dist at? relax roundOf rounds IsNext Cand IsFar nbr candL WayTo lotOf)
/-- a def whose exceptions have no context, as it can be called -/
structure CalN (P : Program) (w : World) (K : PySem.W.Frag) (mg : Str → Option Value) (base : Heap) (k : Nat) (x : Str) (f : Addr) (fd : FuncData) (ps : List Str) (sp : Sp) : Prop where
  ok : FnOk P w K mg base (L2N.CX P w) k f fd ps sp
  g : mg x = some (.ref f)
  kp : PySem.W.keepIn K (.ref f) = true
  b : Binds K fd ps []
theorem CalN.x {P : Program} {w : World} {K : PySem.W.Frag} {mg : Str → Option Value} {base : Heap} {k : Nat} {x : Str} {f : Addr} {fd : FuncData} {ps : List Str} {sp : Sp} (h : CalN P w K mg base k x f fd ps sp) : CalX P w K mg base k x f fd ps sp := ⟨h.ok.toX, h.g, h.kp, h.b⟩
/-- a refusal's class with the promise of its __init__ while an exception is handled -/
structure ExcH (P : Program) (w : World) (K : PySem.W.Frag) (mg : Str → Option Value) (base : Heap) (k : Nat) (x : Str) (C fI : Addr) (fd : FuncData) (ps : List Str) (sp : Sp) : Prop where
  t : ExcT K mg x C fI
  ok : L2H.FnH P w K mg base CX0 k fI fd ps sp
  b : Binds K fd ps []
/-- C(i, j) of two ints -/
def spIn2 (K : PySem.W.Frag) (f g wd : Str) : Sp := fun vs H Q _ => ∃ (a C : Addr) (i j : Int), vs = [.ref a, .int i, .int j] ∧ i.natAbs.log2 < 1920 ∧ j.natAbs.log2 < 1920 ∧ OexC K C ∧ PySem.W.findIn K (.ref C) "word" = some none ∧ PySem.W.findIn K (.ref C) f = some none ∧ PySem.W.findIn K (.ref C) g = some none ∧ H a = some (exo a C none) ∧
  ∀ (dx : Addr) (H' : Hp), H dx = none → dx ≠ a → (∀ b o, H b = some o → b ≠ a → H' b = some o) → H' a = some (exo a C (some dx)) → H' dx = some (exd dx [(g, .int j), (f, .int i), ("word", .str wd)]) → Q .non H'
def TieX (CT : Addr) (i j : Int) (H : Hp) (E : XK) : Prop := ∀ (d : Addr) (H' : Hp), H d = none → Same H H' → H' d = some (.xd [("other", .int j), ("one", .int i), ("word", .str "notie")]) → E (.ref CT) (some d) H'
/-- the ties but those that join u and v -/
def lft (ts : List T3) (u v : Nat) : List T3 := ts.filter fun e => !((e.1 == u && e.2.1 == v) || (e.2.1 == u && e.1 == v))
theorem lft_sub {ts : List T3} {u v : Nat} : ∀ e ∈ lft ts u v, e ∈ ts := fun e m => (List.mem_filter.mp m).1
theorem lft_len (ts : List T3) (u v : Nat) : (lft ts u v).length ≤ ts.length := List.length_filter_le _ _
theorem lft_fits {n : Nat} {ts : List T3} {u v : Nat} (h : Fits n ts) : Fits n (lft ts u v) := fun e m => h e (lft_sub e m)
theorem lft_good {n : Nat} {ts : List T3} {u v : Nat} (h : Good n ts) : Good n (lft ts u v) := fun e m => h e (lft_sub e m)
def spWithout : Sp := fun vs H Q _ => ∃ (u v : Nat) (t : Addr) (ts : List T3), vs = [.ref t, .int (u : Nat), .int (v : Nat)] ∧ TiesAt H t ts ∧ ts.length ≤ 400 ∧ ∀ p H', H p = none → Same H H' → TiesAt H' p (lft ts u v) → Q (.ref p) H'
def spRoundX (CH CT CL : Addr) : Sp := fun vs H Q E => ∃ (n : Nat) (s g : Int) (t : Addr) (ts : List T3), vs = [.int (n : Nat), .ref t, .int s, .int g] ∧ n ≤ 9 ∧ s.natAbs.log2 < 1920 ∧ g.natAbs.log2 < 1920 ∧ TiesAt H t ts ∧ ts.length ≤ 400 ∧ Fits n ts ∧ (∀ e ∈ ts, 1 ≤ e.2.2 ∧ e.2.2 ≤ 9) ∧
  (¬ (0 ≤ s ∧ s < n) → HouseX CH s H E) ∧ (0 ≤ s ∧ s < n → ¬ (0 ≤ g ∧ g < n) → HouseX CH g H E) ∧ (0 ≤ s ∧ s < n → g = s → TieX CT s g H E) ∧
  (∀ s' g' : Nat, s = s' → g = g' → s' < n → g' < n → s' ≠ g' → at? (farD n (lft ts s' g') g') s' = none → LotX CL "lone" (lotOf n (farD n (lft ts s' g') s')) H E) ∧
  (∀ (s' g' c : Nat) (way : List Nat), s = s' → g = g' → s' < n → g' < n → s' ≠ g' → at? (farD n (lft ts s' g') g') s' = some c → WayTo (both (lft ts s' g')) (farD n (lft ts s' g') g') g' s' way → way.length ≤ 100 → ∀ p H', H p = none → Same H H' → PriceWay H' p c way → Q (.ref p) H')
end K
namespace L2
open PySem PySem.Spec PyProof.Rows
section
variable {X : Cx}
/-- x not in a tuple of data -/
def rNotInDT (K : PySem.W.Frag) : R2 := fun x y H Q => ∃ d ds, Dp K H x d ∧ Dp K H y (.tuple ds) ∧ SeqAt.shaped d = true ∧ SeqAt.shaped (.tuple ds) = true ∧ Q (.bl (!ds.any fun z => PyData.eqv z d)) H
theorem op_notInDT (hu : X.A.units + 65 < cLine) : OpR X (compareOp .NotIn) (rNotInDT X.K) := by
  intro pins s σ H x y v u Q I rx ry h
  obtain ⟨d, ds, hd, he, sd, se, q⟩ := h
  obtain ⟨as, r1⟩ := Dp.reads I d x v hd rx
  obtain ⟨bs, r2⟩ := Dp.reads I (.tuple ds) y u he ry
  exact SeqAt.notIn_tuple_reads r2 r1 (SeqAt.canLay_of_shaped se) (SeqAt.canLay_of_shaped sd) (room_in_shaped sd hu) ⟨.bl _, H, I, rfl, q⟩
end
end L2
namespace K
open PySem PySem.Spec PyProof.Rows L2
def pairD (i j : Int) : PyData := .tuple [.int i, .int j]
theorem pair_shaped (i j : Int) : SeqAt.shaped (pairD i j) = true := by
  unfold SeqAt.shaped pairD
  simp [PyData.canLay0, PyData.canLayAll0, PyData.depth, PyData.depthAll]
theorem pairs_shaped (i j k l : Int) : SeqAt.shaped (.tuple [pairD i j, pairD k l]) = true := by
  unfold SeqAt.shaped pairD
  simp [PyData.canLay0, PyData.canLayAll0, PyData.depth, PyData.depthAll]
theorem pair_eqv (i j k l : Int) : PyData.eqv (pairD i j) (pairD k l) = decide (i = k ∧ j = l) := by
  simp [pairD, PyData.eqv, PyData.eqvAll, Bool.beq_eq_decide_eq]
theorem dp_pair {K : PySem.W.Frag} {H : Hp} {p : Addr} {i j : Int} (h : H p = some (.tup [.int i, .int j])) : Dp K H (.ref p) (pairD i j) := .tup (SqT.of h) (.cons (.int _) (.cons (.int _) .nil))
end K

/-! refusals held as values -/
namespace L2
open PySem PySem.Spec PyProof.Rows
/-- what a class must have for isinstance of its instances -/
structure IsC (K : PySem.W.Frag) (C : Addr) : Prop where
  cl : (PySem.W.clsIn K C).isSome = true
  ha : PySem.W.findIn K (.ref C) "__class__" = some (some (.builtin "object.__class__"))
  hn : PySem.W.specialIn K (.builtin "object.__class__") "__get__" = some (some (.builtin "getset_descriptor.__get__"))
  ht : PySem.W.takesIn K (.builtin "object.__class__") = some true
  hm : PySem.W.mroIn K C (.type "object") = some true
section
variable {X : Cx}
/-- a refusal that stands: its class, its fields -/
def ExAt (H : Hp) (a C : Addr) (fs : List (Str × V)) : Prop := ∃ dx, H a = some (exo a C (some dx)) ∧ H dx = some (exd dx fs)
theorem ExAt.same {H H' : Hp} {a C : Addr} {fs : List (Str × V)} (h : ExAt H a C fs) (s : ∀ b o, H b = some o → H' b = some o) : ExAt H' a C fs := by
  obtain ⟨dx, h1, h2⟩ := h
  exact ⟨dx, s _ _ h1, s _ _ h2⟩
theorem ExAt.put {H : Hp} {a C l : Addr} {fs : List (Str × V)} {xs ys : List V} (h : ExAt H a C fs) (hl : H l = some (.lst xs)) : ExAt (upd H l (.lst ys)) a C fs := by
  obtain ⟨dx, h1, h2⟩ := h
  refine ⟨dx, ?_, ?_⟩
  · rw [upd_ne (ne_of h1 hl (fun z => by cases z))]; exact h1
  · rw [upd_ne (ne_of h2 hl (fun z => by cases z))]; exact h2
/-- C(e, ..) as a value: R tells what is asked of the arguments -/
theorem pe_valG {CX : CXT} {R : List V → Hp → VK → Prop} {x : Str} {e : Expr} {es : List Expr} {ta : TA} {p pos : Pos} {C fI : Addr} {k : Nat} {fd : FuncData} {ps : List Str} {sp : Sp} (T : OexC X.K C) (iC : PySem.W.findIn X.K (.ref C) "__init__" = some (some (.ref fI))) (tI : PySem.W.typeIn X.K (.ref fI) = some (.type "function"))
    (F1 : FnOk X.prog X.w X.K X.mg X.base CX k fI fd ps sp) (hr : Room (k + 1) X.A) (hb : Binds X.K fd ps []) (hx : Passes CX X (fun _ _ _ => False)) (hg : Gl X x) (hm : X.mg x = some (.ref C)) (ha : PA X (e :: es) ta) (hR : ∀ vs H1 Q, R vs H1 Q → vs.length ≤ 1000 ∧ ∀ a, H1 a = none → sp (.ref a :: vs) (upd H1 a (exo a C none)) (fun v H2 => v = .non ∧ Q (.ref a) H2) (fun _ _ _ => False))
    (hdb : (x == ("__debug__" : Str)) = false := by decide) (he : starEach (e :: es) X.env = (false, eval e X.env) :: starEach es X.env := by rfl) (hpl : (backTo pos (starEach es X.env)).any (·.1) = false := by rfl) :
    PE X (.Call (.Name x p) (e :: es) [] pos) (fun σ H Q => ta σ H fun vs H1 => R vs H1 Q) := by
  refine ⟨fun pins s σ H Q I h => ?_⟩
  obtain ⟨nm, q, N, bs, bm, sn, sub, ab, col, dd, k0, k1, k2, k3, k5, hC, hbm⟩ := T.cls
  refine wpAny_Call_Name_kw (ld_glob I hg hm ?_ hdb)
  refine PySem.W.callWith_K (h₀ := X.base) I.ok.mod.kin T.kC (thn (ha.run pos pins s σ H _ I h) fun us s1 ⟨vs, H1, I1, r1, rr⟩ => ⟨I1.kIn, ?_⟩) he hpl
  obtain ⟨hz, q1⟩ := hR _ _ _ rr
  show wpAny _ _ (call (.ref C) us) _ _ _
  obtain ⟨hp, g, dr, tk, os⟩ := s1
  have hsz : hp.objs.size ≤ hp.objs.size + 1 := Nat.le_succ _
  have hn : H1 (hp.objs.size + 1) = none := I1.hok.fresh hsz
  have hq := q1 (hp.objs.size + 1) hn
  have kk : ∀ b o, hp.get? b = some o → ((hp.push (PySem.W.kdv_tup us)).push (PySem.HandSPX.excO C hp.objs.size)).get? b = some o := fun b o e => Heap.get?_push_of_some _ (Heap.get?_push_of_some _ e)
  have hget : ((hp.push (PySem.W.kdv_tup us)).push (PySem.HandSPX.excO C hp.objs.size)).get? (hp.objs.size + 1) = some (PySem.HandSPX.excO C hp.objs.size) := by heap_get
  have I2 : Inv X pins σ (upd H1 (hp.objs.size + 1) (exo (hp.objs.size + 1) C none)) ⟨(hp.push (PySem.W.kdv_tup us)).push (PySem.HandSPX.excO C hp.objs.size), g, dr, tk, os⟩ :=
    I1.laid (t' := tk) (a := hp.objs.size + 1) (o := exo (hp.objs.size + 1) C none) (h' := (hp.push (PySem.W.kdv_tup us)).push (PySem.HandSPX.excO C hp.objs.size)) kk hsz (exo_ok hget)
  have r2 : Vals (V.ref (hp.objs.size + 1) :: vs) (Value.ref (hp.objs.size + 1) :: us) := .cons rfl r1
  have hl : (Value.ref (hp.objs.size + 1) :: us ++ []).length = ps.length := by
    have e := r2.length
    rw [F1.len _ _ _ _ hq] at e
    rw [List.append_nil]
    exact e.symm
  have hus : us.length ≤ sizeLine := by
    rw [← Paired.length r1, sizeLine_eq]
    omega
  have b2 := hb _ (Value.ref (hp.objs.size + 1) :: us) I2.kIn hl
  rw [List.append_nil] at b2
  refine wpAny_call (PySem.HandSPX.call_own F.excBase_ValueError (fun Y => PySem.HandSPX.refsVE_contains Y bm hbm) (I1.kIn _ _ hC) (PySem.W.looks_findIn I1.kIn iC) (fun self => PySem.W.bind_fn I1.kIn self tI) hus
    (codeAny_mono (F1.run _ X.stack _ _ ⟨Value.ref (hp.objs.size + 1) :: us, []⟩ (Value.ref (hp.objs.size + 1) :: us) _ _ (fun _ _ _ => False) (hr.make C us []) (I2.env0.make C us []) b2 r2 hq) fun r s' hq' => ?_))
  cases r with
  | error er => exact hx pins σ _ _ er s' I2 hq'
  | ok fl =>
    cases fl with
    | ret u =>
      obtain ⟨v, H2, J, rv, ev, q2⟩ := I2.after hq'
      subst ev
      exact ⟨rv, .ref (hp.objs.size + 1), H2, J, rfl, q2⟩
    | next => exact False.elim hq'
    | brk => exact False.elim hq'
    | cont => exact False.elim hq'
/-- e.f of such a value -/
def tXv (K : PySem.W.Frag) (f : Str) (te : TE) : TE := fun σ H Q => te σ H fun x H1 => ∃ (a C : Addr) (fs : List (Str × V)) (v : V), x = .ref a ∧ XfC K C ∧ PySem.W.findIn K (.ref C) f = some none ∧ ExAt H1 a C fs ∧ fs.lookup f = some v ∧ Q v H1
theorem inst_exo {P : Program} {w : World} {H : Hp} {h : Heap} {a C dx : Addr} {fs : List (Str × V)} (hok : HOk P w H h) (ha : H a = some (exo a C (some dx))) (hd : H dx = some (exd dx fs)) :
    ∃ (oe od : Obj) (mA : Str → Option Value), PySem.W.InstAt h a oe C (some od) ∧ (∀ name, PySem.W.lookIn name od = some (mA name)) ∧ ∀ f, RelO (fs.lookup f) (mA f) := by
  obtain ⟨t1, he⟩ := exo_at hok ha
  obtain ⟨mA, hns, hr⟩ := exd_at hok hd
  obtain ⟨od, ho, hl⟩ := lookIn_ns hns
  exact ⟨_, od, mA, ⟨he, rfl, rfl, ho⟩, hl, hr⟩
theorem pe_xv {e : Expr} {te : TE} {pos : Pos} {n : Str} (he : PE X e te) (hb : attributeBase e n X.env (eval e X.env) = eval e X.env := by rfl) : PE X (.Attribute e n pos) (tXv X.K n te) := by
  refine ⟨fun pins s σ H Q I h => ?_⟩
  refine attr_of hb (thn (he.run pins s σ H _ I h) fun u s1 hh => ?_)
  obtain ⟨x, H1, I1, rx, a, C, fs, v, ex, T, hno, ⟨dx, ha, hd⟩, l, q⟩ := hh
  subst ex
  obtain rfl : u = Value.ref a := rx
  obtain ⟨oe, od, mA, J, hl, hr⟩ := inst_exo I1.hok ha hd
  obtain ⟨u, hu, ru⟩ := RelO.some_of (v := v) (o := mA n) (by rw [← l]; exact hr n)
  exact HandSPX.exc_get I1.kIn J T.ga T.gg T.exC (PySem.W.findObj_own T.hdC hno rfl (by rw [hl, hu])) (handed_of ru) ⟨v, H1, I1.tok _, ru, q⟩
theorem pe_xvK {K' : PySem.W.Frag} {e : Expr} {te : TE} {pos : Pos} {n : Str} (hK : X.K = K') (he : PE X e te) (hb : attributeBase e n X.env (eval e X.env) = eval e X.env := by rfl) : PE X (.Attribute e n pos) (tXv K' n te) := hK ▸ pe_xv he hb
/-- isinstance(e, c) of such a value -/
def rIsV (K : PySem.W.Frag) : List V → Hp → VK → Prop := fun xs H Q => ∃ (a C : Addr) (fs : List (Str × V)) (c : V) (cv : Value) (b : Bool), xs = [.ref a, c] ∧ XfC K C ∧ IsC K C ∧ ExAt H a C fs ∧ (∀ u, RelV c u → u = cv) ∧ PySem.W.kitOne K (.ref C) cv = some b ∧ Q (.bl b) H
theorem call_isV : CallR X (.builtin "isinstance") (rIsV X.K) := by
  intro pins s σ H xs us Q I r h
  obtain ⟨a, C, fs, c, cv, b, rfl, T, S, ⟨dx, ha, hd⟩, hcv, e, q⟩ := h
  cases r with
  | cons rx rr =>
    cases rr with
    | cons rt rr =>
      cases rr
      cases rx
      have ec := hcv _ rt
      subst ec
      obtain ⟨oe, od, mA, J, hl, hr⟩ := inst_exo I.hok ha hd
      exact PySem.W.kia_one (PySem.W.kitx_exc S.cl T.ga T.gg T.exC S.ha S.hn S.ht S.hm) I.kIn J e (fun z => nomatch z) fun tk => ⟨.bl b, H, I.kept (t' := tk) fun _ _ z => z, rfl, q⟩
end
end L2
namespace K
open PySem PySem.Spec PyProof.Rows L2
def askStr : Hp → V → Prop := fun _ v => ∃ y : Str, v = .str y ∧ y.length ≤ 1000
def spInS (K : PySem.W.Frag) (f g wd : Str) : Sp := fun vs H Q _ => ∃ (a C : Addr) (i : Int) (y : Str), vs = [.ref a, .int i, .str y] ∧ i.natAbs.log2 < 1920 ∧ y.length ≤ 1000 ∧ OexC K C ∧ PySem.W.findIn K (.ref C) "word" = some none ∧ PySem.W.findIn K (.ref C) f = some none ∧ PySem.W.findIn K (.ref C) g = some none ∧ H a = some (exo a C none) ∧
  ∀ (dx : Addr) (H' : Hp), H dx = none → dx ≠ a → (∀ b o, H b = some o → b ≠ a → H' b = some o) → H' a = some (exo a C (some dx)) → H' dx = some (exd dx [(g, .str y), (f, .int i), ("word", .str wd)]) → Q .non H'
theorem free_upd {H : Hp} {a b : Addr} {o : HO} (h : (upd H a o) b = none) : H b = none := by
  by_cases e : b = a
  · subst e
    rw [upd_same] at h
    cases h
  · rwa [upd_ne e] at h
section
variable {X : Cx} {x : Str} {p pos : Pos} {C fI : Addr} {k : Nat} {fd : FuncData}
/-- C(e), one field -/
def rNew1 (C : Addr) (f wd : Str) (ask : Hp → V → Prop) (got : Hp → Hp → V → V → Prop) : List V → Hp → VK → Prop := fun vs H Q => ∃ v, vs = [v] ∧ ask H v ∧ ∀ (a : Addr) (v' : V) (H' : Hp), H a = none → Same H H' → ExAt H' a C [(f, v'), ("word", .str wd)] → got H H' v v' → Q (.ref a) H'
structure Mono (ask : Hp → V → Prop) (got : Hp → Hp → V → V → Prop) : Prop where
  a : ∀ H H' v, Same H H' → ask H v → ask H' v
  g : ∀ H H0 H' v v', (∀ b, H0 b = none → H b = none) → got H0 H' v v' → got H H' v v'
theorem monoI : Mono askInt gotSame := ⟨fun _ _ _ _ h => h, fun _ _ _ _ _ _ h => h⟩
theorem monoS : Mono askStr gotSame := ⟨fun _ _ _ _ h => h, fun _ _ _ _ _ _ h => h⟩
theorem monoL {K : PySem.W.Frag} : Mono (askLot K) gotLot := ⟨fun _ _ _ s ⟨l, ns, e, h, r⟩ => ⟨l, ns, e, s _ _ h, r⟩, fun _ _ _ _ _ hb ⟨l, l', xs, e1, e2, h1, h2, ne, h3⟩ => ⟨l, l', xs, e1, e2, h1, h2, ne, hb _ h3⟩⟩
theorem pe_new1 {f wd : Str} {e : Expr} {ta : TA} {ask : Hp → V → Prop} {got : Hp → Hp → V → V → Prop} (c : ExcC X.prog X.w X.K X.mg X.base k x C fI fd ["self", f] (spIn1 X.K f wd ask got)) (M : Mono ask got) (fl : PySem.W.findIn X.K (.ref C) f = some none) (hr : Room (k + 1) X.A) (hg : Gl X x) (ha : PA X [e] ta)
    (hdb : (x == ("__debug__" : Str)) = false := by decide) (he : starEach [e] X.env = (false, eval e X.env) :: starEach [] X.env := by rfl) (hpl : (backTo pos (starEach [] X.env)).any (·.1) = false := by rfl) :
    PE X (.Call (.Name x p) [e] [] pos) (fun σ H Q => ta σ H fun vs H1 => rNew1 C f wd ask got vs H1 Q) :=
  pe_valG (R := rNew1 C f wd ask got) c.t.oex c.t.iC c.t.tI c.ok hr c.b pass0 hg c.t.g ha (fun vs H1 Q ⟨v, e1, hask, q⟩ => by
    subst e1
    exact ⟨by simp, fun a na => ⟨a, C, v, rfl, M.a _ _ _ (same_upd na) hask, c.t.oex, c.t.word, fl, upd_same, fun dx v' H' ndx ne hk ha hd hgot => ⟨rfl, q a v' H' na (fun b o e => hk b o (by rw [upd_ne (ne_of_none e na)]; exact e) (ne_of_none e na)) ⟨dx, ha, hd⟩ (M.g _ _ _ _ _ (fun b => free_upd) hgot)⟩⟩⟩) hdb he hpl
/-- C(i, j), C(i, y) -/
def rNew2 (C : Addr) (f g wd : Str) : List V → Hp → VK → Prop := fun vs H Q => ∃ i j : Int, vs = [.int i, .int j] ∧ i.natAbs.log2 < 1920 ∧ j.natAbs.log2 < 1920 ∧ ∀ (a : Addr) (H' : Hp), H a = none → Same H H' → ExAt H' a C [(g, .int j), (f, .int i), ("word", .str wd)] → Q (.ref a) H'
def rNewS (C : Addr) (f g wd : Str) : List V → Hp → VK → Prop := fun vs H Q => ∃ (i : Int) (y : Str), vs = [.int i, .str y] ∧ i.natAbs.log2 < 1920 ∧ y.length ≤ 1000 ∧ ∀ (a : Addr) (H' : Hp), H a = none → Same H H' → ExAt H' a C [(g, .str y), (f, .int i), ("word", .str wd)] → Q (.ref a) H'
theorem pe_new2 {f g wd : Str} {e e2 : Expr} {ta : TA} (c : ExcC X.prog X.w X.K X.mg X.base k x C fI fd ["self", f, g] (spIn2 X.K f g wd)) (fl : PySem.W.findIn X.K (.ref C) f = some none) (gl : PySem.W.findIn X.K (.ref C) g = some none) (hr : Room (k + 1) X.A) (hg : Gl X x) (ha : PA X [e, e2] ta)
    (hdb : (x == ("__debug__" : Str)) = false := by decide) (he : starEach [e, e2] X.env = (false, eval e X.env) :: starEach [e2] X.env := by rfl) (hpl : (backTo pos (starEach [e2] X.env)).any (·.1) = false := by rfl) :
    PE X (.Call (.Name x p) [e, e2] [] pos) (fun σ H Q => ta σ H fun vs H1 => rNew2 C f g wd vs H1 Q) :=
  pe_valG (R := rNew2 C f g wd) c.t.oex c.t.iC c.t.tI c.ok hr c.b pass0 hg c.t.g ha (fun vs H1 Q ⟨i, j, e1, hi, hj, q⟩ => by
    subst e1
    exact ⟨by simp, fun a na => ⟨a, C, i, j, rfl, hi, hj, c.t.oex, c.t.word, fl, gl, upd_same, fun dx H' ndx ne hk ha hd => ⟨rfl, q a H' na (fun b o e => hk b o (by rw [upd_ne (ne_of_none e na)]; exact e) (ne_of_none e na)) ⟨dx, ha, hd⟩⟩⟩⟩) hdb he hpl
theorem pe_newS {f g wd : Str} {e e2 : Expr} {ta : TA} (c : ExcC X.prog X.w X.K X.mg X.base k x C fI fd ["self", f, g] (spInS X.K f g wd)) (fl : PySem.W.findIn X.K (.ref C) f = some none) (gl : PySem.W.findIn X.K (.ref C) g = some none) (hr : Room (k + 1) X.A) (hg : Gl X x) (ha : PA X [e, e2] ta)
    (hdb : (x == ("__debug__" : Str)) = false := by decide) (he : starEach [e, e2] X.env = (false, eval e X.env) :: starEach [e2] X.env := by rfl) (hpl : (backTo pos (starEach [e2] X.env)).any (·.1) = false := by rfl) :
    PE X (.Call (.Name x p) [e, e2] [] pos) (fun σ H Q => ta σ H fun vs H1 => rNewS C f g wd vs H1 Q) :=
  pe_valG (R := rNewS C f g wd) c.t.oex c.t.iC c.t.tI c.ok hr c.b pass0 hg c.t.g ha (fun vs H1 Q ⟨i, y, e1, hi, hj, q⟩ => by
    subst e1
    exact ⟨by simp, fun a na => ⟨a, C, i, y, rfl, hi, hj, c.t.oex, c.t.word, fl, gl, upd_same, fun dx H' ndx ne hk ha hd => ⟨rfl, q a H' na (fun b o e => hk b o (by rw [upd_ne (ne_of_none e na)]; exact e) (ne_of_none e na)) ⟨dx, ha, hd⟩⟩⟩⟩) hdb he hpl
end
/-- what all refusals have as values -/
structure ExcG (K : PySem.W.Frag) (CS C : Addr) : Prop where
  xf : XfC K C
  word : PySem.W.findIn K (.ref C) "word" = some none
  is : IsC K C
  k1 : PySem.W.kitOne K (.ref C) (.ref CS) = some true
  k2 : PySem.W.kitOne K (.ref C) (.type "ValueError") = some true
end K

namespace K
open PySem PySem.Spec PyProof.Rows L2
def top (i : Nat) : Stmt := PySem.Challenge.pw_swapslip_k65_refusals_made_by_themselves.main.body.getD i (.Pass ⟨0, 0, 0, 0⟩)
abbrev sBox : Stmt := top 14
abbrev sTake : Stmt := top 15
section
variable {P : Program} {w : World} {K : PySem.W.Frag} {mg : Str → Option Value} {base : Heap}
theorem scBox : FnScope ["_law_script"] ["_law_script"] (defScope sBox) := ⟨rfl, rfl, rfl, by decide +kernel, rfl, by decide +kernel, by decide +kernel⟩
theorem ok_box {f : Addr} {fd : FuncData} {k : Nat} (F : Fun K "_law_box" "_law_box" sBox f fd) (ml : mg "list" = none) : FnOk P w K mg base CX0 (k + 1) f fd ["_law_script"] (spBox K) := by
  refine F.ok scBox (fun vs H Q E h => ?_) (fun cdv A outer s H vs Q E hr h => ?_)
  · obtain ⟨a, ns, rfl, _⟩ := h
    rfl
  · obtain ⟨a, ns, rfl, hS, hlen, q⟩ := h
    refine ⟨_, pss_one (ps_ret (pe_lst (pa_cons (pe_callTy call_list_of (by rfl) ml (by decide +kernel) (pa_cons (pe_slice sl_list (pv 0) po_none (po_some pe_int)) pa_nil)) (pa_cons pe_int (pa_cons pe_int (pa_cons pe_int pa_nil)))))), ?_⟩
    refine ⟨.ref a, rfl, 63, rfl, a, _, rfl, hS, fun c nc => ?_⟩
    refine ⟨c, _, rfl, .inl (.inl (.inl upd_same)), fun l nl => ?_⟩
    refine ⟨(by show 4 ≤ sizeLine; decide), fun p np => ?_⟩
    have e : ∃ ms : List Int, cutV (ns.map V.int) none (some 63) = ms.map V.int ∧ ms.length ≤ 63 := by
      refine ⟨(ns.drop (HT.sIx ns.length 0 none)).take (HT.sIx ns.length ns.length (some 63) - HT.sIx ns.length 0 none), ?_, ?_⟩
      · unfold cutV
        rw [List.length_map, ← List.map_drop, ← List.map_take]
      · rw [List.length_take, List.length_drop]; omega
    obtain ⟨ms, em, hm⟩ := e
    rw [em] at nl np ⊢
    have s1 := same_upd (o := .lst (ms.map V.int)) nc
    have s2 := same_upd (o := .lst (ms.map V.int)) nl
    have s3 := same_upd (o := .lst [.ref l, .int 0, .int 0, .int 29]) np
    have nlp : l ≠ p := ne_of_none upd_same np
    refine q p l _ (s1.free (s2.free np)) (s1.free nl) ⟨ms, 0, 0, 29, upd_same, ?_, by omega, by omega, by omega, by omega, hm⟩ (s1.trans (s2.trans s3))
    rw [upd_ne nlp, upd_same]
theorem scTake : FnScope ["_law_box_here", "_law_sides", "_law_tail", "_law_cell", "_law_seed"] ["_law_box_here", "_law_sides"] (defScope sTake) := ⟨rfl, rfl, rfl, by decide +kernel, rfl, by decide +kernel, by decide +kernel⟩
theorem ok_take {f : Addr} {fd : FuncData} {k : Nat} (F : Fun K "_law_take" "_law_take" sTake f fd) (mlen : mg "len" = none) : FnOk P w K mg base CX0 (k + 1) f fd ["_law_box_here", "_law_sides"] spTake := by
  refine F.ok scTake (fun vs H Q E h => ?_) (fun cdv A outer s H vs Q E hr h => ?_)
  · obtain ⟨p, q, n, rfl, _⟩ := h
    rfl
  · obtain ⟨p, q, n, rfl, hB, hn, hn2, kk⟩ := h
    refine ⟨_, pss_cons (ps_if (pt_cmpR op_gt (pe_ix ix_list (pv 0) pe_int (fun _ _ => rfl)) pe_int (nomark _))
        (pss_cons (ps_set (i := 2) scTake.nd rfl (.inl rfl) (pe_ix ix_list (pv 0) pe_int (fun _ _ => rfl)))
        (pss_cons (ps_asg (pe_op op_fdivN (pv 2) (pv 1)) (pg_sub (pv 0) pe_int set_list))
        (pss_one (ps_ret (pe_op op_modN (pv 2) (pv 1)))))) pss_nil)
      (pss_cons (ps_set (i := 3) scTake.nd rfl (.inl rfl) pe_int)
      (pss_cons (ps_if (pt_cmpR op_lt (pe_ix ix_list (pv 0) pe_int (fun _ _ => rfl)) (pe_callB call_len_seq (by rfl) mlen PySem.boot_len (pa_cons (pe_ix ix_list (pv 0) pe_int (fun _ _ => rfl)) pa_nil)) (nomark _))
        (pss_cons (ps_set (i := 3) scTake.nd rfl (.inl rfl) (pe_ix ix_list (pe_ix ix_list (pv 0) pe_int (fun _ _ => rfl)) (pe_ix ix_list (pv 0) pe_int (fun _ _ => rfl)) (fun _ _ => rfl)))
        (pss_one (ps_augS (pv 0) pe_int get_listA pe_int ip_add set_list))) pss_nil)
      (pss_cons (ps_if (pt_cmpR op_ge (pv 3) (pe_op op_pow pe_int pe_int) (nomark _))
        (pss_cons (ps_asg (pe_op op_fdivN (pv 3) (pv 1)) (pg_sub (pv 0) pe_int set_list))
        (pss_one (ps_ret (pe_op op_modN (pv 3) (pv 1))))) pss_nil)
      (pss_cons (ps_set (i := 4) scTake.nd rfl (.inl rfl) (pe_ix ix_list (pv 0) pe_int (fun _ _ => rfl)))
      (pss_cons (ps_asg (pe_op op_modN (pe_op op_add (pe_op op_add (pe_op op_add (pe_op op_pow (pv 4) pe_int) (pe_op op_mul pe_int (pv 4))) (pe_op op_mul pe_int (pe_op op_modN (pv 3) pe_int))) pe_int) pe_int) (pg_sub (pv 0) pe_int set_list))
      (pss_one (ps_ret (pe_op op_modN (pe_op op_fdivN (pe_ix ix_list (pv 0) pe_int (fun _ _ => rfl)) pe_int) (pv 1))))))))), ?_⟩
    obtain ⟨ns, i, t, sd, h1, h2, hi0, hi1, hs0, hs1, hl⟩ := id hB
    have npq := hB.ne
    refine ⟨_, rfl, p, _, 2, _, rfl, rfl, SqL.of h1, rfl, _, _, rfl, rfl, _, rfl, ?_⟩
    refine ite2 (fun c => ?_) (fun c => ?_)
    · refine ⟨_, rfl, p, _, 2, _, rfl, rfl, SqL.of h1, rfl, ?_⟩
      refine ⟨_, rfl, _, rfl, t, n, rfl, rfl, ⟨by omega, by omega⟩, _, rfl, p, _, 2, 2, rfl, rfl, h1, rfl, ?_⟩
      refine ⟨_, rfl, _, rfl, t, n, rfl, rfl, (by show n ≠ 0; omega), ?_⟩
      refine kk _ _ (fmod_le hn).1 (fmod_le hn).2 ⟨ns, i, _, sd, upd_same, by rw [upd_ne npq.symm]; exact h2, hi0, hi1, hs0, hs1, hl⟩ But.put
    · -- the cell: some int, the box with another place
      refine ⟨_, rfl, p, _, 1, _, rfl, rfl, SqL.of h1, rfl, _, rfl, p, _, 0, _, rfl, rfl, SqL.of h1, rfl, q, _, rfl, .inl (SqL.of h2), _, _, rfl, rfl, _, rfl, ?_⟩
      rw [List.length_map]
      refine ite2 (fun c => ?_) (fun c => ?_)
      · have hlt : i.toNat < ns.length := by have := of_decide_eq_true c; omega
        have hat : (ns.map V.int)[i.toNat]? = some (.int ns[i.toNat]) := by rw [List.getElem?_map, List.getElem?_eq_getElem hlt]; rfl
        refine ⟨_, rfl, p, _, 0, _, rfl, rfl, SqL.of h1, rfl, _, rfl, p, _, 1, _, rfl, rfl, SqL.of h1, rfl, q, _, i, _, rfl, rfl, SqL.of h2, atI0 hi0 hat, ?_⟩
        refine ⟨_, rfl, p, _, 1, _, rfl, rfl, SqL.of h1, by omega, rfl, i, 1, rfl, rfl, p, _, 1, 1, rfl, rfl, h1, rfl, ?_⟩
        generalize ns[i.toNat] = cell
        have g1 : (upd H p (.lst [.ref q, .int (i + 1), .int t, .int sd])) p = some (.lst [.ref q, .int (i + 1), .int t, .int sd]) := upd_same
        have g2 : (upd H p (.lst [.ref q, .int (i + 1), .int t, .int sd])) q = some (.lst (ns.map V.int)) := by rw [upd_ne npq.symm]; exact h2
        have gi0 : 0 ≤ i + 1 := by omega
        have gi1 : i + 1 ≤ ns.length := by omega
        have gb : But p H (upd H p (.lst [.ref q, .int (i + 1), .int t, .int sd])) := But.put
        show tSeq _ _ _ _ (upd H p (.lst [.ref q, .int (i + 1), .int t, .int sd]))
        generalize upd H p (.lst [.ref q, .int (i + 1), .int t, .int sd]) = H2 at g1 g2 gb ⊢
        generalize i + 1 = i2 at g1 gi0 gi1
        refine ⟨_, rfl, 10, 18, rfl, rfl, ⟨by decide, by decide, by decide⟩, _, _, rfl, rfl, _, rfl, ?_⟩
        refine ite2 (fun c2 => ?_) (fun c2 => ?_)
        · refine ⟨_, rfl, _, rfl, _, n, rfl, rfl, ⟨by omega, by omega⟩, _, rfl, p, _, 2, 2, rfl, rfl, g1, rfl, ?_⟩
          refine ⟨_, rfl, _, rfl, _, n, rfl, rfl, (by show n ≠ 0; omega), ?_⟩
          exact kk _ _ (fmod_le hn).1 (fmod_le hn).2 ⟨ns, _, _, sd, upd_same, by rw [upd_ne npq.symm]; exact g2, gi0, gi1, hs0, hs1, hl⟩ (gb.trans But.put)
        · refine ⟨_, rfl, p, _, 3, _, rfl, rfl, SqL.of g1, rfl, ?_⟩
          refine ⟨_, rfl, sd, 3, rfl, rfl, ⟨by decide, by decide, by omega⟩, _, rfl, 69621, sd, rfl, rfl, .inl ⟨by decide, by decide⟩, _, _, rfl, rfl, _, rfl, _, 2147483549, rfl, rfl, (by decide : (2147483549 : Int) ≠ 0),
            48271, _, rfl, rfl, .inl ⟨by decide, by decide⟩, _, _, rfl, rfl, _, _, rfl, rfl, _, 2147483549, rfl, rfl, (by decide : (2147483549 : Int) ≠ 0), _, rfl, p, _, 3, 3, rfl, rfl, g1, rfl, ?_⟩
          refine ⟨_, rfl, p, _, 3, _, rfl, rfl, SqL.of upd_same, rfl, _, 64, rfl, rfl, ⟨by decide, by decide⟩, _, rfl, _, n, rfl, rfl, (by show n ≠ 0; omega), ?_⟩
          exact kk _ _ (fmod_le hn).1 (fmod_le hn).2 ⟨ns, _, _, _, upd_same, by rw [upd_ne npq.symm]; exact g2, gi0, gi1, (fmod_le (by decide)).1, (fmod_le (by decide)).2, hl⟩ (gb.trans But.put)
      · have g1 := h1
        have g2 := h2
        have gi0 := hi0
        have gi1 := hi1
        have gb := But.refl p H
        refine ⟨_, rfl, 10, 18, rfl, rfl, ⟨by decide, by decide, by decide⟩, _, _, rfl, rfl, _, rfl, ?_⟩
        refine ite2 (fun c2 => ?_) (fun c2 => ?_)
        · refine ⟨_, rfl, _, rfl, _, n, rfl, rfl, ⟨by omega, by omega⟩, _, rfl, p, _, 2, 2, rfl, rfl, g1, rfl, ?_⟩
          refine ⟨_, rfl, _, rfl, _, n, rfl, rfl, (by show n ≠ 0; omega), ?_⟩
          exact kk _ _ (fmod_le hn).1 (fmod_le hn).2 ⟨ns, _, _, sd, upd_same, by rw [upd_ne npq.symm]; exact g2, gi0, gi1, hs0, hs1, hl⟩ (gb.trans But.put)
        · refine ⟨_, rfl, p, _, 3, _, rfl, rfl, SqL.of g1, rfl, ?_⟩
          refine ⟨_, rfl, sd, 3, rfl, rfl, ⟨by decide, by decide, by omega⟩, _, rfl, 69621, sd, rfl, rfl, .inl ⟨by decide, by decide⟩, _, _, rfl, rfl, _, rfl, _, 2147483549, rfl, rfl, (by decide : (2147483549 : Int) ≠ 0),
            48271, _, rfl, rfl, .inl ⟨by decide, by decide⟩, _, _, rfl, rfl, _, _, rfl, rfl, _, 2147483549, rfl, rfl, (by decide : (2147483549 : Int) ≠ 0), _, rfl, p, _, 3, 3, rfl, rfl, g1, rfl, ?_⟩
          refine ⟨_, rfl, p, _, 3, _, rfl, rfl, SqL.of upd_same, rfl, _, 64, rfl, rfl, ⟨by decide, by decide⟩, _, rfl, _, n, rfl, rfl, (by show n ≠ 0; omega), ?_⟩
          exact kk _ _ (fmod_le hn).1 (fmod_le hn).2 ⟨ns, _, _, _, upd_same, by rw [upd_ne npq.symm]; exact g2, gi0, gi1, (fmod_le (by decide)).1, (fmod_le (by decide)).2, hl⟩ (gb.trans But.put)
end
end K

namespace K
open PySem PySem.Spec PyProof.Rows L2
abbrev sSame : Stmt := top 16
section
variable {P : Program} {w : World} {K : PySem.W.Frag} {mg : Str → Option Value} {base : Heap}
theorem scSame : FnScope ["_law_found", "_law_due", "_law_x", "_law_y"] ["_law_found", "_law_due"] (defScope sSame) := ⟨rfl, rfl, rfl, by decide +kernel, rfl, by decide +kernel, by decide +kernel⟩
structure SameTxt (mg : Str → Option Value) : Prop where
  isi : mg "isinstance" = none
  lst : mg "list" = none
  tup : mg "tuple" = none
  bool : mg "bool" = none
  int : mg "int" = none
  str : mg "str" = none
  len : mg "len" = none
  all : mg "all" = none
  zip : mg "zip" = none
theorem ok_same {f : Addr} {fd : FuncData} (F : Fun K "_law_same" "_law_same" sSame f fd) (T : SameTxt mg) (gf : mg "_law_same" = some (.ref f)) (b : Binds K fd ["_law_found", "_law_due"] []) : ∀ n : Nat, FnOk P w K mg base CX0 n f fd ["_law_found", "_law_due"] (spSame n)
  | 0 => fnok_never fun vs H Q E ⟨x, y, _, h, _⟩ => h
  | n + 1 => by
    have G := ok_same F T gf b n
    refine F.ok scSame (fun vs H Q E h => ?_) (fun cdv A outer s H vs Q E hr h => ?_)
    · obtain ⟨x, y, rfl, _⟩ := h
      rfl
    · obtain ⟨x, y, rfl, hE, kk⟩ := h
      refine ⟨_, pss_cons (ps_if (pt_val (pe_callB call_isiT (by rfl) T.isi (by decide +kernel) (pa_cons (pv 1) (pa_cons (pe_tup (pa_cons (pe_bltn (v := .ty "list") (by rfl) T.lst (by decide +kernel) rfl) (pa_cons (pe_bltn (v := .ty "tuple") (by rfl) T.tup (by decide +kernel) rfl) pa_nil))) pa_nil))))
          (pss_cons (ps_if (PW.pt (pw_or (pt_cmpR op_ne (pe_callB call_isi (by rfl) T.isi (by decide +kernel) (pa_cons (pv 0) (pa_cons (pe_bltn (v := .ty "list") (by rfl) T.lst (by decide +kernel) rfl) pa_nil)))
                (pe_callB call_isi (by rfl) T.isi (by decide +kernel) (pa_cons (pv 1) (pa_cons (pe_bltn (v := .ty "list") (by rfl) T.lst (by decide +kernel) rfl) pa_nil))) (nomark _))
              (pw_or1 (pt_cmpR op_ne (pe_callB call_isi (by rfl) T.isi (by decide +kernel) (pa_cons (pv 0) (pa_cons (pe_bltn (v := .ty "tuple") (by rfl) T.tup (by decide +kernel) rfl) pa_nil)))
                (pe_callB call_isi (by rfl) T.isi (by decide +kernel) (pa_cons (pv 1) (pa_cons (pe_bltn (v := .ty "tuple") (by rfl) T.tup (by decide +kernel) rfl) pa_nil))) (nomark _))))) (pss_one (ps_ret pe_bl)) pss_nil)
          (pss_one (ps_ret (pe_and (pe_cmpR op_eq (pe_callB call_len_seq (by rfl) T.len PySem.boot_len (pa_cons (pv 0) pa_nil)) (pe_callB call_len_seq (by rfl) T.len PySem.boot_len (pa_cons (pv 1) pa_nil)) (nomark _))
            (pe_one (pe_callB (cr_all rfl) (by rfl) T.all (by decide +kernel) (pa_cons (pe_lc (own := [("_law_x", 2), ("_law_y", 3)]) (g := gTup K 2 (gCons (gName 2) (gCons (gName 3) gNil))) (tt := tYes) rfl scSame.nd (RZ.pi_zipA (by rfl) T.zip (pa_cons (pv 0) (pa_cons (pv 1) pa_nil)))
                (blkOk_by (own := [("_law_x", 2), ("_law_y", 3)]) (N := ["_law_found", "_law_due", "_law_x", "_law_y"]) (sc := defScope sSame) (by decide +kernel))
                (fun _ _ _ _ _ => by exact (pg_tup rfl (pgs_cons (pg_name (i := 2) scSame.nd rfl (Or.inl rfl)) (pgs_cons (pg_name (i := 3) scSame.nd rfl (Or.inl rfl)) pgs_nil)))) (fun _ _ _ _ _ => pts_nil)
                (fun _ _ _ _ _ => pe_call G hr (by rfl) gf F.kp b .nil pass0 (pa_cons (pv 2) (pa_cons (pv 3) pa_nil)))) pa_nil))))))) pss_nil)
        (pss_cons (ps_if (PW.pt (pw_or (pt_cmpR op_ne (pe_cmpR op_isN (pv 0) pe_non (nomark _)) (pe_cmpR op_isN (pv 1) pe_non (nomark _)) (nomark _))
            (pw_or1 (pt_cmpR op_ne (pe_callB call_isi (by rfl) T.isi (by decide +kernel) (pa_cons (pv 0) (pa_cons (pe_bltn (v := .ty "bool") (by rfl) T.bool (by decide +kernel) rfl) pa_nil)))
                (pe_callB call_isi (by rfl) T.isi (by decide +kernel) (pa_cons (pv 1) (pa_cons (pe_bltn (v := .ty "bool") (by rfl) T.bool (by decide +kernel) rfl) pa_nil))) (nomark _))))) (pss_one (ps_ret pe_bl)) pss_nil)
        (pss_cons (ps_if (pt_cmpR op_ne (pe_callB call_isi (by rfl) T.isi (by decide +kernel) (pa_cons (pv 0) (pa_cons (pe_bltn (v := .ty "int") (by rfl) T.int (by decide +kernel) rfl) pa_nil)))
                (pe_callB call_isi (by rfl) T.isi (by decide +kernel) (pa_cons (pv 1) (pa_cons (pe_bltn (v := .ty "int") (by rfl) T.int (by decide +kernel) rfl) pa_nil))) (nomark _)) (pss_one (ps_ret pe_bl)) pss_nil)
        (pss_one (ps_ret (pe_and (pe_cmpR op_eq (pe_callB call_isi (by rfl) T.isi (by decide +kernel) (pa_cons (pv 0) (pa_cons (pe_bltn (v := .ty "str") (by rfl) T.str (by decide +kernel) rfl) pa_nil)))
                (pe_callB call_isi (by rfl) T.isi (by decide +kernel) (pa_cons (pv 1) (pa_cons (pe_bltn (v := .ty "str") (by rfl) T.str (by decide +kernel) rfl) pa_nil))) (nomark _)) (pe_one (pe_cmpR op_eq (pv 0) (pv 1) (nomark _)))))))), ?_⟩
      refine ⟨_, rfl, (by show 2 ≤ sizeLine; decide), fun t nt => ?_⟩
      have s0 : Same H (upd H t (.tup [.ty "list", .ty "tuple"])) := same_upd nt
      have hE1 := Eqv.same s0 hE
      have ht : (upd H t (.tup [.ty "list", .ty "tuple"])) t = some (.tup [.ty "list", .ty "tuple"]) := upd_same
      rcases hE1 with ⟨e, hf⟩ | ⟨a1, a2, xs, ys, rfl, rfl, hab, hl, hz, hi⟩
      · -- flat
        subst e
        cases x with
        | non =>
          refine ⟨_, t, [.ty "list", .ty "tuple"], _, [.type "list", .type "tuple"], false, rfl, ht, .cons (.ty _) (.cons (.ty _) .nil), (.base .non), kit2 (b := false) (c := false) (by decide +kernel) (by decide +kernel), ?_⟩
          refine ⟨_, rfl, iteF ?_⟩
          refine ⟨_, rfl, rfl, _, rfl, rfl, rfl, _, rfl, iteNS rfl ?_⟩
          refine ⟨_, rfl, _, _, _, _, false, rfl, .ty _, (.base .non), kit_ty (by decide +kernel), ?_⟩
          refine ⟨_, rfl, _, _, _, _, false, rfl, .ty _, (.base .non), kit_ty (by decide +kernel), ?_⟩
          refine ⟨rfl, _, rfl, iteNS rfl ?_⟩
          refine ⟨_, rfl, _, _, _, _, false, rfl, .ty _, (.base .non), kit_ty (by decide +kernel), ?_⟩
          refine ⟨_, rfl, _, _, _, _, false, rfl, .ty _, (.base .non), kit_ty (by decide +kernel), ?_⟩
          refine ⟨rfl, _, rfl, iteNS rfl ?_⟩
          refine ⟨_, rfl, _, _, _, _, false, rfl, .ty _, (.base .non), kit_ty (by decide +kernel), ?_⟩
          refine ⟨_, rfl, _, _, _, _, false, rfl, .ty _, (.base .non), kit_ty (by decide +kernel), ?_⟩
          refine ⟨rfl, _, rfl, ?_⟩
          rw [decide_eq_true rfl]
          refine iteT ⟨_, rfl, _, rfl, rfl, ?_⟩
          rw [decide_eq_true rfl]
          exact kk _ s0
        | bl v =>
          refine ⟨_, t, [.ty "list", .ty "tuple"], _, [.type "list", .type "tuple"], false, rfl, ht, .cons (.ty _) (.cons (.ty _) .nil), (.base (.bl v)), kit2 (b := false) (c := false) (by decide +kernel) (by decide +kernel), ?_⟩
          refine ⟨_, rfl, iteF ?_⟩
          refine ⟨_, rfl, rfl, _, rfl, rfl, rfl, _, rfl, iteNS rfl ?_⟩
          refine ⟨_, rfl, _, _, _, _, true, rfl, .ty _, (.base (.bl v)), kit_ty (by decide +kernel), ?_⟩
          refine ⟨_, rfl, _, _, _, _, true, rfl, .ty _, (.base (.bl v)), kit_ty (by decide +kernel), ?_⟩
          refine ⟨rfl, _, rfl, iteNS rfl ?_⟩
          refine ⟨_, rfl, _, _, _, _, true, rfl, .ty _, (.base (.bl v)), kit_ty (by decide +kernel), ?_⟩
          refine ⟨_, rfl, _, _, _, _, true, rfl, .ty _, (.base (.bl v)), kit_ty (by decide +kernel), ?_⟩
          refine ⟨rfl, _, rfl, iteNS rfl ?_⟩
          refine ⟨_, rfl, _, _, _, _, false, rfl, .ty _, (.base (.bl v)), kit_ty (by decide +kernel), ?_⟩
          refine ⟨_, rfl, _, _, _, _, false, rfl, .ty _, (.base (.bl v)), kit_ty (by decide +kernel), ?_⟩
          refine ⟨rfl, _, rfl, ?_⟩
          rw [decide_eq_true rfl]
          refine iteT ⟨_, rfl, _, rfl, rfl, ?_⟩
          rw [decide_eq_true rfl]
          exact kk _ s0
        | int v =>
          refine ⟨_, t, [.ty "list", .ty "tuple"], _, [.type "list", .type "tuple"], false, rfl, ht, .cons (.ty _) (.cons (.ty _) .nil), (.base (.int v)), kit2 (b := false) (c := false) (by decide +kernel) (by decide +kernel), ?_⟩
          refine ⟨_, rfl, iteF ?_⟩
          refine ⟨_, rfl, rfl, _, rfl, rfl, rfl, _, rfl, iteNS rfl ?_⟩
          refine ⟨_, rfl, _, _, _, _, false, rfl, .ty _, (.base (.int v)), kit_ty (by decide +kernel), ?_⟩
          refine ⟨_, rfl, _, _, _, _, false, rfl, .ty _, (.base (.int v)), kit_ty (by decide +kernel), ?_⟩
          refine ⟨rfl, _, rfl, iteNS rfl ?_⟩
          refine ⟨_, rfl, _, _, _, _, true, rfl, .ty _, (.base (.int v)), kit_ty (by decide +kernel), ?_⟩
          refine ⟨_, rfl, _, _, _, _, true, rfl, .ty _, (.base (.int v)), kit_ty (by decide +kernel), ?_⟩
          refine ⟨rfl, _, rfl, iteNS rfl ?_⟩
          refine ⟨_, rfl, _, _, _, _, false, rfl, .ty _, (.base (.int v)), kit_ty (by decide +kernel), ?_⟩
          refine ⟨_, rfl, _, _, _, _, false, rfl, .ty _, (.base (.int v)), kit_ty (by decide +kernel), ?_⟩
          refine ⟨rfl, _, rfl, ?_⟩
          rw [decide_eq_true rfl]
          refine iteT ⟨_, rfl, _, rfl, rfl, ?_⟩
          rw [decide_eq_true rfl]
          exact kk _ s0
        | str v =>
          refine ⟨_, t, [.ty "list", .ty "tuple"], _, [.type "list", .type "tuple"], false, rfl, ht, .cons (.ty _) (.cons (.ty _) .nil), (.base (.str v)), kit2 (b := false) (c := false) (by decide +kernel) (by decide +kernel), ?_⟩
          refine ⟨_, rfl, iteF ?_⟩
          refine ⟨_, rfl, rfl, _, rfl, rfl, rfl, _, rfl, iteNS rfl ?_⟩
          refine ⟨_, rfl, _, _, _, _, false, rfl, .ty _, (.base (.str v)), kit_ty (by decide +kernel), ?_⟩
          refine ⟨_, rfl, _, _, _, _, false, rfl, .ty _, (.base (.str v)), kit_ty (by decide +kernel), ?_⟩
          refine ⟨rfl, _, rfl, iteNS rfl ?_⟩
          refine ⟨_, rfl, _, _, _, _, false, rfl, .ty _, (.base (.str v)), kit_ty (by decide +kernel), ?_⟩
          refine ⟨_, rfl, _, _, _, _, false, rfl, .ty _, (.base (.str v)), kit_ty (by decide +kernel), ?_⟩
          refine ⟨rfl, _, rfl, iteNS rfl ?_⟩
          refine ⟨_, rfl, _, _, _, _, true, rfl, .ty _, (.base (.str v)), kit_ty (by decide +kernel), ?_⟩
          refine ⟨_, rfl, _, _, _, _, true, rfl, .ty _, (.base (.str v)), kit_ty (by decide +kernel), ?_⟩
          refine ⟨rfl, _, rfl, ?_⟩
          rw [decide_eq_true rfl]
          refine iteT ⟨_, rfl, _, rfl, rfl, ?_⟩
          rw [decide_eq_true rfl]
          exact kk _ s0
        | byt v => cases hf
        | flt v => cases hf
        | ref v => cases hf
        | ty v => cases hf
      · rcases hab with ⟨h1, h2⟩ | ⟨h1, h2⟩
        · refine ⟨_, t, [.ty "list", .ty "tuple"], _, [.type "list", .type "tuple"], true, rfl, ht, .cons (.ty _) (.cons (.ty _) .nil), .base (.lst h2), kit2 (b := true) (c := false) (by decide +kernel) (by decide +kernel), ?_⟩
          refine ⟨_, rfl, iteT ?_⟩
          refine ⟨_, rfl, _, _, _, _, true, rfl, .ty _, .base (.lst h1), kit_ty (by decide +kernel), ?_⟩
          refine ⟨_, rfl, _, _, _, _, true, rfl, .ty _, .base (.lst h2), kit_ty (by decide +kernel), ?_⟩
          refine ⟨rfl, _, rfl, iteNS rfl ?_⟩
          refine ⟨_, rfl, _, _, _, _, false, rfl, .ty _, .base (.lst h1), kit_ty (by decide +kernel), ?_⟩
          refine ⟨_, rfl, _, _, _, _, false, rfl, .ty _, .base (.lst h2), kit_ty (by decide +kernel), ?_⟩
          refine ⟨rfl, _, rfl, iteNS rfl ?_⟩
          refine ⟨_, rfl, a1, xs, rfl, .inl (SqL.of h1), _, rfl, a2, ys, rfl, .inl (SqL.of h2), rfl, _, rfl, ?_⟩
          rw [hl, decide_eq_true rfl]
          refine iteT ?_
          refine ⟨_, rfl, _, rfl, a1, a2, xs, ys, rfl, .inl ⟨SqL.of h1, SqL.of h2, fun D nD => ?_⟩⟩
          refine lc_it (walk_zip (xs := xs) (ys := ys) (n := xs.length) (by rw [hl]; simp)) (fun i H' => Same (upd H t (.tup [.ty "list", .ty "tuple"])) H' ∧ H' D = some (.lst ((List.replicate i true).map V.bl)))
            ⟨same_upd nD, upd_same⟩ (fun i H' _ ⟨s1, _⟩ => ⟨SqL.of (s1 _ _ h1), SqL.of (s1 _ _ h2)⟩) ?_ ?_
          · rintro i x H' H2 hi1 ⟨s1, hD⟩ ⟨T2, x', y', rfl, hT, rfl, f1, f2⟩
            have s2 := same_upd (o := .tup [x', y']) hT
            refine ⟨T2, [x', y'], rfl, .inl (.inl upd_same), rfl, x', [y'], rfl, y', [], rfl, rfl, rfl, ?_⟩
            refine ⟨_, rfl, _, rfl, x', y', rfl, (hi i x' y' f1 f2).same (s1.trans s2), fun H3 s3 => ?_⟩
            refine ⟨_, s3 _ _ (s2 _ _ hD), ?_, ?_, ?_⟩
            · rw [List.length_map, List.length_replicate]; exact small1000 (by omega)
            · intro b o e
              rw [upd_ne (ne_of_none e nD)]
              exact s3 _ _ (s2 _ _ (s1 _ _ e))
            · rw [upd_same, List.replicate_succ', List.map_append]
              rfl
          · rintro H' ⟨s1, hD⟩
            refine ⟨D, List.replicate xs.length true, rfl, .inl (.inl hD), ?_⟩
            have e : (List.replicate xs.length true).all id = true := by simp
            rw [e]
            exact kk _ (s0.trans s1)
        · refine ⟨_, t, [.ty "list", .ty "tuple"], _, [.type "list", .type "tuple"], true, rfl, ht, .cons (.ty _) (.cons (.ty _) .nil), .base (.tup h2), kit2 (b := false) (c := true) (by decide +kernel) (by decide +kernel), ?_⟩
          refine ⟨_, rfl, iteT ?_⟩
          refine ⟨_, rfl, _, _, _, _, false, rfl, .ty _, .base (.tup h1), kit_ty (by decide +kernel), ?_⟩
          refine ⟨_, rfl, _, _, _, _, false, rfl, .ty _, .base (.tup h2), kit_ty (by decide +kernel), ?_⟩
          refine ⟨rfl, _, rfl, iteNS rfl ?_⟩
          refine ⟨_, rfl, _, _, _, _, true, rfl, .ty _, .base (.tup h1), kit_ty (by decide +kernel), ?_⟩
          refine ⟨_, rfl, _, _, _, _, true, rfl, .ty _, .base (.tup h2), kit_ty (by decide +kernel), ?_⟩
          refine ⟨rfl, _, rfl, iteNS rfl ?_⟩
          refine ⟨_, rfl, a1, xs, rfl, .inr (SqT.of h1), _, rfl, a2, ys, rfl, .inr (SqT.of h2), rfl, _, rfl, ?_⟩
          rw [hl, decide_eq_true rfl]
          refine iteT ?_
          refine ⟨_, rfl, _, rfl, a1, a2, xs, ys, rfl, .inr ⟨SqT.of h1, SqT.of h2, fun D nD => ?_⟩⟩
          refine lc_it (walk_zipTT (xs := xs) (ys := ys) (n := xs.length) (by rw [hl]; simp)) (fun i H' => Same (upd H t (.tup [.ty "list", .ty "tuple"])) H' ∧ H' D = some (.lst ((List.replicate i true).map V.bl)))
            ⟨same_upd nD, upd_same⟩ (fun i H' _ ⟨s1, _⟩ => ⟨SqT.of (s1 _ _ h1), SqT.of (s1 _ _ h2)⟩) ?_ ?_
          · rintro i x H' H2 hi1 ⟨s1, hD⟩ ⟨T2, x', y', rfl, hT, rfl, f1, f2⟩
            have s2 := same_upd (o := .tup [x', y']) hT
            refine ⟨T2, [x', y'], rfl, .inl (.inl upd_same), rfl, x', [y'], rfl, y', [], rfl, rfl, rfl, ?_⟩
            refine ⟨_, rfl, _, rfl, x', y', rfl, (hi i x' y' f1 f2).same (s1.trans s2), fun H3 s3 => ?_⟩
            refine ⟨_, s3 _ _ (s2 _ _ hD), ?_, ?_, ?_⟩
            · rw [List.length_map, List.length_replicate]; exact small1000 (by omega)
            · intro b o e
              rw [upd_ne (ne_of_none e nD)]
              exact s3 _ _ (s2 _ _ (s1 _ _ e))
            · rw [upd_same, List.replicate_succ', List.map_append]
              rfl
          · rintro H' ⟨s1, hD⟩
            refine ⟨D, List.replicate xs.length true, rfl, .inl (.inl hD), ?_⟩
            have e : (List.replicate xs.length true).all id = true := by simp
            rw [e]
            exact kk _ (s0.trans s1)
end
end K

namespace K
open PySem PySem.Spec PyProof.Rows L2
abbrev sSlipI : Stmt := inClass (top 1) 0
section
variable {P : Program} {w : World} {K : PySem.W.Frag} {mg : Str → Option Value} {base : Heap}
theorem scSlipI : FnScope ["self", "word", "why"] ["self", "word", "why"] (defScope sSlipI) := ⟨rfl, rfl, rfl, by decide +kernel, rfl, by decide +kernel, by decide +kernel⟩
theorem ok_slipI {f CS fS : Addr} {fd : FuncData} {k : Nat} {dvs : List V} (F : FunD K "__init__" "SlipError.__init__" (defArgs sSlipI) (defBody sSlipI) (defScope sSlipI) dvs [] f fd) (T : SlipT K mg CS fS) : FnOk P w K mg base CX0 (k + 1) f fd ["self", "word", "why"] (spSlip K) := by
  refine F.ok scSlipI (fun vs H Q E h => ?_) (fun cdv A outer s H vs Q E hr h => ?_)
  · obtain ⟨a, C, wd, y, rfl, _⟩ := h
    rfl
  · obtain ⟨a, C, wd, y, rfl, oex, hw, ha, q⟩ := h
    refine ⟨_, PSs.nox (pss_cons (ps_expr (pe_veinit (by rfl) T.mV T.vV (pa_cons (pv 0) (pa_cons (pv 2) pa_nil)))) (pss_one (ps_ost (pv 0) (pv 1)))), ?_⟩
    refine ⟨_, rfl, _, rfl, a, C, [.str y], rfl, (by show 1 ≤ 1000; decide), oex, ha, ?_⟩
    exact ⟨_, rfl, _, rfl, a, C, rfl, oex, hw, .inl ⟨ha, fun dx n ne => q dx n ne⟩⟩
end
end K

namespace K
open PySem PySem.Spec PyProof.Rows L2
abbrev sNoHouseI : Stmt := inClass (top 3) 0
section
variable {P : Program} {w : World} {K : PySem.W.Frag} {mg : Str → Option Value} {base : Heap}
theorem scNoHouseI : FnScope ["self", "house"] ["self", "house"] (defScope sNoHouseI) := ⟨rfl, rfl, rfl, by decide +kernel, rfl, by decide +kernel, by decide +kernel⟩
theorem ok_nohouseI {f CS fS : Addr} {fd fdS : FuncData} {k : Nat} (F : Fun K "__init__" "NoHouse.__init__" sNoHouseI f fd) (T : SlipT K mg CS fS) (GS : FnOk P w K mg base CX0 (k + 1) fS fdS ["self", "word", "why"] (spSlip K)) (bS : Binds K fdS ["self", "word", "why"] []) : FnOk P w K mg base CX0 (k + 2) f fd ["self", "house"] (spIn1 K "house" "nohouse" askInt gotSame) := by
  refine F.ok scNoHouseI (fun vs H Q E h => ?_) (fun cdv A outer s H vs Q E hr h => ?_)
  · obtain ⟨a, C, v, rfl, _⟩ := h
    rfl
  · obtain ⟨a, C, v, rfl, hask, oex, hw, hf, ha, q⟩ := h
    refine ⟨_, pss_cons (ps_expr (pe_clsf (pe_glob (v := .ref CS) (by rfl) T.g rfl) T.r T.at_ GS hr T.kp bS pass0 (pa_cons (pv 0) (pa_cons pe_str (pa_cons (pe_joined (.cons pe_str (.cons (pe_fmt (pv 1)) .nil))) pa_nil))))) (pss_one (ps_ost (pv 0) (pv 1))), ?_⟩
    obtain ⟨i, rfl, hi⟩ := hask
    refine ⟨rfl, _, rfl, _, rfl, by decide +kernel, _, rfl, .inr ⟨i, rfl, hi, _, rfl, join2_le (by decide +kernel) (Nat.le_trans (PyProof.Rows.int_text_len_1921 hi) (by decide)), ?_⟩⟩
    refine ⟨a, C, _, _, rfl, oex, hw, ha, fun dx nd ne => ?_⟩
    refine ⟨_, rfl, _, rfl, a, C, rfl, oex, hf, .inr ⟨dx, _, upd_same, by rw [upd_ne ne]; exact upd_same, (by show 1 ≤ 900; decide), ?_⟩⟩
    refine q dx _ _ nd ne (fun b o e hb => ?_) ?_ upd_same rfl
    · rw [upd_ne (ne_of_none e nd), upd_ne hb, upd_ne (ne_of_none e nd)]
      exact e
    · rw [upd_ne (Ne.symm ne)]
      exact upd_same
end
end K

namespace K
open PySem PySem.Spec PyProof.Rows L2
abbrev sNoTieI : Stmt := inClass (top 4) 0
section
variable {P : Program} {w : World} {K : PySem.W.Frag} {mg : Str → Option Value} {base : Heap}
theorem scNoTieI : FnScope ["self", "one", "other"] ["self", "one", "other"] (defScope sNoTieI) := ⟨rfl, rfl, rfl, by decide +kernel, rfl, by decide +kernel, by decide +kernel⟩
theorem join4_le {c m e n : Str} (hc : (Str.empty ++ c).length ≤ 1000) (hm : m.length ≤ 2000) (he : e.length ≤ 1000) (hn : n.length ≤ 2000) : ((((Str.empty ++ c) ++ m) ++ e) ++ n).length ≤ sizeLine := by
  rw [strLen_append, strLen_append, strLen_append, sizeLine_eq]
  omega
theorem ok_notieI {f CS fS : Addr} {fd fdS : FuncData} {k : Nat} (F : Fun K "__init__" "NoTie.__init__" sNoTieI f fd) (T : SlipT K mg CS fS) (GS : FnOk P w K mg base CX0 (k + 1) fS fdS ["self", "word", "why"] (spSlip K)) (bS : Binds K fdS ["self", "word", "why"] []) : FnOk P w K mg base CX0 (k + 2) f fd ["self", "one", "other"] (spIn2 K "one" "other" "notie") := by
  refine F.ok scNoTieI (fun vs H Q E h => ?_) (fun cdv A outer s H vs Q E hr h => ?_)
  · obtain ⟨a, C, i, j, rfl, _⟩ := h
    rfl
  · obtain ⟨a, C, i, j, rfl, hi, hj, oex, hw, hf, hg, ha, q⟩ := h
    refine ⟨_, pss_cons (ps_expr (pe_clsf (pe_glob (v := .ref CS) (by rfl) T.g rfl) T.r T.at_ GS hr T.kp bS pass0 (pa_cons (pv 0) (pa_cons pe_str (pa_cons (pe_joined (.cons pe_str (.cons (pe_fmt (pv 1)) (.cons pe_str (.cons (pe_fmt (pv 2)) .nil))))) pa_nil))))) (pss_cons (ps_ost (pv 0) (pv 1)) (pss_one (ps_ost (pv 0) (pv 2)))), ?_⟩
    refine ⟨rfl, _, rfl, _, rfl, by decide +kernel, _, rfl, .inr ⟨i, rfl, hi, _, rfl, join2_le (by decide +kernel) (Nat.le_trans (PyProof.Rows.int_text_len_1921 hi) (by decide)), ?_⟩⟩
    refine ⟨_, rfl, join3_le (by decide +kernel) (Nat.le_trans (PyProof.Rows.int_text_len_1921 hi) (by decide)) (by decide +kernel), _, rfl, .inr ⟨j, rfl, hj, _, rfl, join4_le (by decide +kernel) (Nat.le_trans (PyProof.Rows.int_text_len_1921 hi) (by decide)) (by decide +kernel) (Nat.le_trans (PyProof.Rows.int_text_len_1921 hj) (by decide)), ?_⟩⟩
    refine ⟨a, C, _, _, rfl, oex, hw, ha, fun dx nd ne => ?_⟩
    refine ⟨_, rfl, _, rfl, a, C, rfl, oex, hf, .inr ⟨dx, _, upd_same, by rw [upd_ne ne]; exact upd_same, (by show 1 ≤ 900; decide), ?_⟩⟩
    refine ⟨_, rfl, _, rfl, a, C, rfl, oex, hg, .inr ⟨dx, _, by rw [upd_ne (Ne.symm ne)]; exact upd_same, upd_same, (by show 2 ≤ 900; decide), ?_⟩⟩
    refine q dx _ nd ne (fun b o e hb => ?_) ?_ upd_same
    · rw [upd_ne (ne_of_none e nd), upd_ne (ne_of_none e nd), upd_ne hb, upd_ne (ne_of_none e nd)]
      exact e
    · rw [upd_ne (Ne.symm ne), upd_ne (Ne.symm ne)]
      exact upd_same
end
end K

namespace K
open PySem PySem.Spec PyProof.Rows L2
abbrev sNoWayI : Stmt := inClass (top 8) 0
section
variable {P : Program} {w : World} {K : PySem.W.Frag} {mg : Str → Option Value} {base : Heap}
theorem scNoWayI : FnScope ["self", "lot"] ["self", "lot"] (defScope sNoWayI) := ⟨rfl, rfl, rfl, by decide +kernel, rfl, by decide +kernel, by decide +kernel⟩
theorem ok_nowayI {f CS fS : Addr} {fd fdS : FuncData} {k : Nat} (F : Fun K "__init__" "NoWay.__init__" sNoWayI f fd) (T : SlipT K mg CS fS) (GS : FnOk P w K mg base CX0 (k + 1) fS fdS ["self", "word", "why"] (spSlip K)) (bS : Binds K fdS ["self", "word", "why"] []) (ml : mg "list" = none) : FnOk P w K mg base CX0 (k + 2) f fd ["self", "lot"] (spIn1 K "lot" "noway" (askLot K) gotLot) := by
  refine F.ok scNoWayI (fun vs H Q E h => ?_) (fun cdv A outer s H vs Q E hr h => ?_)
  · obtain ⟨a, C, v, rfl, _⟩ := h
    rfl
  · obtain ⟨a, C, v, rfl, hask, oex, hw, hf, ha, q⟩ := h
    refine ⟨_, pss_cons (ps_expr (pe_clsf (pe_glob (v := .ref CS) (by rfl) T.g rfl) T.r T.at_ GS hr T.kp bS pass0 (pa_cons (pv 0) (pa_cons pe_str (pa_cons (pe_joined (.cons pe_str (.cons (pe_fmtL hr (pv 1)) .nil))) pa_nil))))) (pss_one (ps_ost (pv 0) (pe_callTy call_list_of (by rfl) ml (by decide +kernel) (pa_cons (pv 1) pa_nil)))), ?_⟩
    obtain ⟨l, ns, rfl, hl, hz, hd⟩ := hask
    refine ⟨rfl, _, rfl, _, rfl, by decide +kernel, _, rfl, l, ns, rfl, SqL.of hl, hz, hd, fun m hm => ⟨m, rfl, join2_le (by decide +kernel) (by omega), ?_⟩⟩
    refine ⟨a, C, _, _, rfl, oex, hw, ha, fun dx nd ne => ?_⟩
    have hla : l ≠ a := ext_ne_lst ha hl
    have hl2 : (upd (upd H dx (exd dx [("word", .str "noway")])) a (exo a C (some dx))) l = some (.lst (ns.map V.int)) := by
      rw [upd_ne hla, upd_ne (ne_of_none hl nd)]
      exact hl
    refine ⟨_, rfl, l, _, rfl, .inl (SqL.of hl2), fun l2 nl2 => ?_⟩
    have h2a : l2 ≠ a := fun z => by
      subst z
      rw [upd_same] at nl2
      cases nl2
    have h2d : l2 ≠ dx := fun z => by
      subst z
      rw [upd_ne ne, upd_same] at nl2
      cases nl2
    refine ⟨_, rfl, a, C, rfl, oex, hf, .inr ⟨dx, _, by rw [upd_ne (Ne.symm h2a)]; exact upd_same, by rw [upd_ne (Ne.symm h2d), upd_ne ne]; exact upd_same, (by show 1 ≤ 900; decide), ?_⟩⟩
    have nll : l ≠ l2 := ne_of_none hl2 nl2
    have hld : l ≠ dx := ne_of_none hl nd
    refine q dx (.ref l2) _ nd ne (fun b o e hb => ?_) ?_ upd_same ⟨l, l2, ns.map V.int, rfl, rfl, ?_, ?_, nll, by rw [upd_ne h2a, upd_ne h2d] at nl2; exact nl2⟩
    · have e2 : (upd (upd H dx (exd dx [("word", .str "noway")])) a (exo a C (some dx))) b = some o := by
        rw [upd_ne hb, upd_ne (ne_of_none e nd)]
        exact e
      rw [upd_ne (ne_of_none e nd), upd_ne (ne_of_none e2 nl2)]
      exact e2
    · rw [upd_ne (Ne.symm ne), upd_ne (Ne.symm h2a)]
      exact upd_same
    · rw [upd_ne hld, upd_ne nll]
      exact hl2
    · rw [upd_ne h2d]
      exact upd_same
end
end K

namespace K
open PySem PySem.Spec PyProof.Rows L2
abbrev sLoneI : Stmt := inClass (top 9) 0
section
variable {P : Program} {w : World} {K : PySem.W.Frag} {mg : Str → Option Value} {base : Heap}
theorem scLoneI : FnScope ["self", "lot"] ["self", "lot"] (defScope sLoneI) := ⟨rfl, rfl, rfl, by decide +kernel, rfl, by decide +kernel, by decide +kernel⟩
theorem ok_loneI {f CS fS : Addr} {fd fdS : FuncData} {k : Nat} (F : Fun K "__init__" "Lone.__init__" sLoneI f fd) (T : SlipT K mg CS fS) (GS : FnOk P w K mg base CX0 (k + 1) fS fdS ["self", "word", "why"] (spSlip K)) (bS : Binds K fdS ["self", "word", "why"] []) (ml : mg "list" = none) : FnOk P w K mg base CX0 (k + 2) f fd ["self", "lot"] (spIn1 K "lot" "lone" (askLot K) gotLot) := by
  refine F.ok scLoneI (fun vs H Q E h => ?_) (fun cdv A outer s H vs Q E hr h => ?_)
  · obtain ⟨a, C, v, rfl, _⟩ := h
    rfl
  · obtain ⟨a, C, v, rfl, hask, oex, hw, hf, ha, q⟩ := h
    refine ⟨_, pss_cons (ps_expr (pe_clsf (pe_glob (v := .ref CS) (by rfl) T.g rfl) T.r T.at_ GS hr T.kp bS pass0 (pa_cons (pv 0) (pa_cons pe_str (pa_cons (pe_joined (.cons pe_str (.cons (pe_fmtL hr (pv 1)) .nil))) pa_nil))))) (pss_one (ps_ost (pv 0) (pe_callTy call_list_of (by rfl) ml (by decide +kernel) (pa_cons (pv 1) pa_nil)))), ?_⟩
    obtain ⟨l, ns, rfl, hl, hz, hd⟩ := hask
    refine ⟨rfl, _, rfl, _, rfl, by decide +kernel, _, rfl, l, ns, rfl, SqL.of hl, hz, hd, fun m hm => ⟨m, rfl, join2_le (by decide +kernel) (by omega), ?_⟩⟩
    refine ⟨a, C, _, _, rfl, oex, hw, ha, fun dx nd ne => ?_⟩
    have hla : l ≠ a := ext_ne_lst ha hl
    have hl2 : (upd (upd H dx (exd dx [("word", .str "lone")])) a (exo a C (some dx))) l = some (.lst (ns.map V.int)) := by
      rw [upd_ne hla, upd_ne (ne_of_none hl nd)]
      exact hl
    refine ⟨_, rfl, l, _, rfl, .inl (SqL.of hl2), fun l2 nl2 => ?_⟩
    have h2a : l2 ≠ a := fun z => by
      subst z
      rw [upd_same] at nl2
      cases nl2
    have h2d : l2 ≠ dx := fun z => by
      subst z
      rw [upd_ne ne, upd_same] at nl2
      cases nl2
    refine ⟨_, rfl, a, C, rfl, oex, hf, .inr ⟨dx, _, by rw [upd_ne (Ne.symm h2a)]; exact upd_same, by rw [upd_ne (Ne.symm h2d), upd_ne ne]; exact upd_same, (by show 1 ≤ 900; decide), ?_⟩⟩
    have nll : l ≠ l2 := ne_of_none hl2 nl2
    have hld : l ≠ dx := ne_of_none hl nd
    refine q dx (.ref l2) _ nd ne (fun b o e hb => ?_) ?_ upd_same ⟨l, l2, ns.map V.int, rfl, rfl, ?_, ?_, nll, by rw [upd_ne h2a, upd_ne h2d] at nl2; exact nl2⟩
    · have e2 : (upd (upd H dx (exd dx [("word", .str "lone")])) a (exo a C (some dx))) b = some o := by
        rw [upd_ne hb, upd_ne (ne_of_none e nd)]
        exact e
      rw [upd_ne (ne_of_none e nd), upd_ne (ne_of_none e2 nl2)]
      exact e2
    · rw [upd_ne (Ne.symm ne), upd_ne (Ne.symm h2a)]
      exact upd_same
    · rw [upd_ne hld, upd_ne nll]
      exact hl2
    · rw [upd_ne h2d]
      exact upd_same
end
end K

namespace K
open PySem PySem.Spec PyProof.Rows L2
abbrev sTooManyI : Stmt := inClass (top 2) 0
section
variable {P : Program} {w : World} {K : PySem.W.Frag} {mg : Str → Option Value} {base : Heap}
theorem scTooManyI : FnScope ["self", "bound"] ["self", "bound"] (defScope sTooManyI) := ⟨rfl, rfl, rfl, by decide +kernel, rfl, by decide +kernel, by decide +kernel⟩
theorem ok_toomanyI {f CS fS : Addr} {fd fdS : FuncData} {k : Nat} (F : Fun K "__init__" "TooMany.__init__" sTooManyI f fd) (T : SlipT K mg CS fS) (GS : FnOk P w K mg base CX0 (k + 1) fS fdS ["self", "word", "why"] (spSlip K)) (bS : Binds K fdS ["self", "word", "why"] []) : FnOk P w K mg base CX0 (k + 2) f fd ["self", "bound"] (spIn1 K "bound" "toomany" askInt gotSame) := by
  refine F.ok scTooManyI (fun vs H Q E h => ?_) (fun cdv A outer s H vs Q E hr h => ?_)
  · obtain ⟨a, C, v, rfl, _⟩ := h
    rfl
  · obtain ⟨a, C, v, rfl, hask, oex, hw, hf, ha, q⟩ := h
    refine ⟨_, pss_cons (ps_expr (pe_clsf (pe_glob (v := .ref CS) (by rfl) T.g rfl) T.r T.at_ GS hr T.kp bS pass0 (pa_cons (pv 0) (pa_cons pe_str (pa_cons (pe_joined (.cons pe_str (.cons (pe_fmt (pv 1)) .nil))) pa_nil))))) (pss_one (ps_ost (pv 0) (pv 1))), ?_⟩
    obtain ⟨i, rfl, hi⟩ := hask
    refine ⟨rfl, _, rfl, _, rfl, by decide +kernel, _, rfl, .inr ⟨i, rfl, hi, _, rfl, join2_le (by decide +kernel) (Nat.le_trans (PyProof.Rows.int_text_len_1921 hi) (by decide)), ?_⟩⟩
    refine ⟨a, C, _, _, rfl, oex, hw, ha, fun dx nd ne => ?_⟩
    refine ⟨_, rfl, _, rfl, a, C, rfl, oex, hf, .inr ⟨dx, _, upd_same, by rw [upd_ne ne]; exact upd_same, (by show 1 ≤ 900; decide), ?_⟩⟩
    refine q dx _ _ nd ne (fun b o e hb => ?_) ?_ upd_same rfl
    · rw [upd_ne (ne_of_none e nd), upd_ne hb, upd_ne (ne_of_none e nd)]
      exact e
    · rw [upd_ne (Ne.symm ne)]
      exact upd_same
end
end K

namespace K
open PySem PySem.Spec PyProof.Rows L2
abbrev sNotTakenI : Stmt := inClass (top 5) 0
section
variable {P : Program} {w : World} {K : PySem.W.Frag} {mg : Str → Option Value} {base : Heap}
theorem scNotTakenI : FnScope ["self", "number"] ["self", "number"] (defScope sNotTakenI) := ⟨rfl, rfl, rfl, by decide +kernel, rfl, by decide +kernel, by decide +kernel⟩
theorem ok_nottakenI {f CS fS : Addr} {fd fdS : FuncData} {k : Nat} (F : Fun K "__init__" "NotTaken.__init__" sNotTakenI f fd) (T : SlipT K mg CS fS) (GS : FnOk P w K mg base CX0 (k + 1) fS fdS ["self", "word", "why"] (spSlip K)) (bS : Binds K fdS ["self", "word", "why"] []) : FnOk P w K mg base CX0 (k + 2) f fd ["self", "number"] (spIn1 K "number" "nottaken" askInt gotSame) := by
  refine F.ok scNotTakenI (fun vs H Q E h => ?_) (fun cdv A outer s H vs Q E hr h => ?_)
  · obtain ⟨a, C, v, rfl, _⟩ := h
    rfl
  · obtain ⟨a, C, v, rfl, hask, oex, hw, hf, ha, q⟩ := h
    refine ⟨_, pss_cons (ps_expr (pe_clsf (pe_glob (v := .ref CS) (by rfl) T.g rfl) T.r T.at_ GS hr T.kp bS pass0 (pa_cons (pv 0) (pa_cons pe_str (pa_cons (pe_joined (.cons pe_str (.cons (pe_fmt (pv 1)) (.cons pe_str .nil)))) pa_nil))))) (pss_one (ps_ost (pv 0) (pv 1))), ?_⟩
    obtain ⟨i, rfl, hi⟩ := hask
    refine ⟨rfl, _, rfl, _, rfl, by decide +kernel, _, rfl, .inr ⟨i, rfl, hi, _, rfl, join2_le (by decide +kernel) (Nat.le_trans (PyProof.Rows.int_text_len_1921 hi) (by decide)), ?_⟩⟩
    refine ⟨_, rfl, join3_le (by decide +kernel) (Nat.le_trans (PyProof.Rows.int_text_len_1921 hi) (by decide)) (by decide +kernel), ?_⟩
    refine ⟨a, C, _, _, rfl, oex, hw, ha, fun dx nd ne => ?_⟩
    refine ⟨_, rfl, _, rfl, a, C, rfl, oex, hf, .inr ⟨dx, _, upd_same, by rw [upd_ne ne]; exact upd_same, (by show 1 ≤ 900; decide), ?_⟩⟩
    refine q dx _ _ nd ne (fun b o e hb => ?_) ?_ upd_same rfl
    · rw [upd_ne (ne_of_none e nd), upd_ne hb, upd_ne (ne_of_none e nd)]
      exact e
    · rw [upd_ne (Ne.symm ne)]
      exact upd_same
end
end K

namespace K
open PySem PySem.Spec PyProof.Rows L2
abbrev sNoTunnelI : Stmt := inClass (top 6) 0
section
variable {P : Program} {w : World} {K : PySem.W.Frag} {mg : Str → Option Value} {base : Heap}
theorem scNoTunnelI : FnScope ["self", "number"] ["self", "number"] (defScope sNoTunnelI) := ⟨rfl, rfl, rfl, by decide +kernel, rfl, by decide +kernel, by decide +kernel⟩
theorem ok_notunnelI {f CS fS : Addr} {fd fdS : FuncData} {k : Nat} (F : Fun K "__init__" "NoTunnel.__init__" sNoTunnelI f fd) (T : SlipT K mg CS fS) (GS : FnOk P w K mg base CX0 (k + 1) fS fdS ["self", "word", "why"] (spSlip K)) (bS : Binds K fdS ["self", "word", "why"] []) : FnOk P w K mg base CX0 (k + 2) f fd ["self", "number"] (spIn1 K "number" "notunnel" askInt gotSame) := by
  refine F.ok scNoTunnelI (fun vs H Q E h => ?_) (fun cdv A outer s H vs Q E hr h => ?_)
  · obtain ⟨a, C, v, rfl, _⟩ := h
    rfl
  · obtain ⟨a, C, v, rfl, hask, oex, hw, hf, ha, q⟩ := h
    refine ⟨_, pss_cons (ps_expr (pe_clsf (pe_glob (v := .ref CS) (by rfl) T.g rfl) T.r T.at_ GS hr T.kp bS pass0 (pa_cons (pv 0) (pa_cons pe_str (pa_cons (pe_joined (.cons pe_str (.cons (pe_fmt (pv 1)) .nil))) pa_nil))))) (pss_one (ps_ost (pv 0) (pv 1))), ?_⟩
    obtain ⟨i, rfl, hi⟩ := hask
    refine ⟨rfl, _, rfl, _, rfl, by decide +kernel, _, rfl, .inr ⟨i, rfl, hi, _, rfl, join2_le (by decide +kernel) (Nat.le_trans (PyProof.Rows.int_text_len_1921 hi) (by decide)), ?_⟩⟩
    refine ⟨a, C, _, _, rfl, oex, hw, ha, fun dx nd ne => ?_⟩
    refine ⟨_, rfl, _, rfl, a, C, rfl, oex, hf, .inr ⟨dx, _, upd_same, by rw [upd_ne ne]; exact upd_same, (by show 1 ≤ 900; decide), ?_⟩⟩
    refine q dx _ _ nd ne (fun b o e hb => ?_) ?_ upd_same rfl
    · rw [upd_ne (ne_of_none e nd), upd_ne hb, upd_ne (ne_of_none e nd)]
      exact e
    · rw [upd_ne (Ne.symm ne)]
      exact upd_same
end
end K

namespace K
open PySem PySem.Spec PyProof.Rows L2
abbrev sShortI : Stmt := inClass (top 7) 0
section
variable {P : Program} {w : World} {K : PySem.W.Frag} {mg : Str → Option Value} {base : Heap}
theorem scShortI : FnScope ["self", "house"] ["self", "house"] (defScope sShortI) := ⟨rfl, rfl, rfl, by decide +kernel, rfl, by decide +kernel, by decide +kernel⟩
theorem ok_shortI {f CS fS : Addr} {fd fdS : FuncData} {k : Nat} (F : Fun K "__init__" "Short.__init__" sShortI f fd) (T : SlipT K mg CS fS) (GS : FnOk P w K mg base CX0 (k + 1) fS fdS ["self", "word", "why"] (spSlip K)) (bS : Binds K fdS ["self", "word", "why"] []) : FnOk P w K mg base CX0 (k + 2) f fd ["self", "house"] (spIn1 K "house" "short" askInt gotSame) := by
  refine F.ok scShortI (fun vs H Q E h => ?_) (fun cdv A outer s H vs Q E hr h => ?_)
  · obtain ⟨a, C, v, rfl, _⟩ := h
    rfl
  · obtain ⟨a, C, v, rfl, hask, oex, hw, hf, ha, q⟩ := h
    refine ⟨_, pss_cons (ps_expr (pe_clsf (pe_glob (v := .ref CS) (by rfl) T.g rfl) T.r T.at_ GS hr T.kp bS pass0 (pa_cons (pv 0) (pa_cons pe_str (pa_cons (pe_joined (.cons pe_str (.cons (pe_fmt (pv 1)) (.cons pe_str .nil)))) pa_nil))))) (pss_one (ps_ost (pv 0) (pv 1))), ?_⟩
    obtain ⟨i, rfl, hi⟩ := hask
    refine ⟨rfl, _, rfl, _, rfl, by decide +kernel, _, rfl, .inr ⟨i, rfl, hi, _, rfl, join2_le (by decide +kernel) (Nat.le_trans (PyProof.Rows.int_text_len_1921 hi) (by decide)), ?_⟩⟩
    refine ⟨_, rfl, join3_le (by decide +kernel) (Nat.le_trans (PyProof.Rows.int_text_len_1921 hi) (by decide)) (by decide +kernel), ?_⟩
    refine ⟨a, C, _, _, rfl, oex, hw, ha, fun dx nd ne => ?_⟩
    refine ⟨_, rfl, _, rfl, a, C, rfl, oex, hf, .inr ⟨dx, _, upd_same, by rw [upd_ne ne]; exact upd_same, (by show 1 ≤ 900; decide), ?_⟩⟩
    refine q dx _ _ nd ne (fun b o e hb => ?_) ?_ upd_same rfl
    · rw [upd_ne (ne_of_none e nd), upd_ne hb, upd_ne (ne_of_none e nd)]
      exact e
    · rw [upd_ne (Ne.symm ne)]
      exact upd_same
end
end K

namespace K
open PySem PySem.Spec PyProof.Rows L2
abbrev sBadDeedI : Stmt := inClass (top 10) 0
section
variable {P : Program} {w : World} {K : PySem.W.Frag} {mg : Str → Option Value} {base : Heap}
theorem scBadDeedI : FnScope ["self", "said"] ["self", "said"] (defScope sBadDeedI) := ⟨rfl, rfl, rfl, by decide +kernel, rfl, by decide +kernel, by decide +kernel⟩
theorem ok_baddeedI {f CS fS : Addr} {fd fdS : FuncData} {k : Nat} (F : Fun K "__init__" "BadDeed.__init__" sBadDeedI f fd) (T : SlipT K mg CS fS) (GS : FnOk P w K mg base CX0 (k + 1) fS fdS ["self", "word", "why"] (spSlip K)) (bS : Binds K fdS ["self", "word", "why"] []) : FnOk P w K mg base CX0 (k + 2) f fd ["self", "said"] (spIn1 K "said" "baddeed" askStr gotSame) := by
  refine F.ok scBadDeedI (fun vs H Q E h => ?_) (fun cdv A outer s H vs Q E hr h => ?_)
  · obtain ⟨a, C, v, rfl, _⟩ := h
    rfl
  · obtain ⟨a, C, v, rfl, hask, oex, hw, hf, ha, q⟩ := h
    refine ⟨_, pss_cons (ps_expr (pe_clsf (pe_glob (v := .ref CS) (by rfl) T.g rfl) T.r T.at_ GS hr T.kp bS pass0 (pa_cons (pv 0) (pa_cons pe_str (pa_cons (pe_joined (.cons pe_str (.cons (pe_fmt (pv 1)) .nil))) pa_nil))))) (pss_one (ps_ost (pv 0) (pv 1))), ?_⟩
    obtain ⟨y, rfl, hy⟩ := hask
    refine ⟨rfl, _, rfl, _, rfl, by decide +kernel, _, rfl, .inl ⟨y, rfl, (by rw [sizeLine_eq]; omega), _, rfl, join2_le (by decide +kernel) (by omega), ?_⟩⟩
    refine ⟨a, C, _, _, rfl, oex, hw, ha, fun dx nd ne => ?_⟩
    refine ⟨_, rfl, _, rfl, a, C, rfl, oex, hf, .inr ⟨dx, _, upd_same, by rw [upd_ne ne]; exact upd_same, (by show 1 ≤ 900; decide), ?_⟩⟩
    refine q dx _ _ nd ne (fun b o e hb => ?_) ?_ upd_same rfl
    · rw [upd_ne (ne_of_none e nd), upd_ne hb, upd_ne (ne_of_none e nd)]
      exact e
    · rw [upd_ne (Ne.symm ne)]
      exact upd_same
end
end K

namespace K
open PySem PySem.Spec PyProof.Rows L2
abbrev sBadPageI : Stmt := inClass (top 11) 0
section
variable {P : Program} {w : World} {K : PySem.W.Frag} {mg : Str → Option Value} {base : Heap}
theorem scBadPageI : FnScope ["self", "row"] ["self", "row"] (defScope sBadPageI) := ⟨rfl, rfl, rfl, by decide +kernel, rfl, by decide +kernel, by decide +kernel⟩
theorem ok_badpageI {f CS fS : Addr} {fd fdS : FuncData} {k : Nat} (F : Fun K "__init__" "BadPage.__init__" sBadPageI f fd) (T : SlipT K mg CS fS) (GS : FnOk P w K mg base CX0 (k + 1) fS fdS ["self", "word", "why"] (spSlip K)) (bS : Binds K fdS ["self", "word", "why"] []) : FnOk P w K mg base CX0 (k + 2) f fd ["self", "row"] (spIn1 K "row" "badpage" askInt gotSame) := by
  refine F.ok scBadPageI (fun vs H Q E h => ?_) (fun cdv A outer s H vs Q E hr h => ?_)
  · obtain ⟨a, C, v, rfl, _⟩ := h
    rfl
  · obtain ⟨a, C, v, rfl, hask, oex, hw, hf, ha, q⟩ := h
    refine ⟨_, pss_cons (ps_expr (pe_clsf (pe_glob (v := .ref CS) (by rfl) T.g rfl) T.r T.at_ GS hr T.kp bS pass0 (pa_cons (pv 0) (pa_cons pe_str (pa_cons (pe_joined (.cons pe_str (.cons (pe_fmt (pv 1)) (.cons pe_str .nil)))) pa_nil))))) (pss_one (ps_ost (pv 0) (pv 1))), ?_⟩
    obtain ⟨i, rfl, hi⟩ := hask
    refine ⟨rfl, _, rfl, _, rfl, by decide +kernel, _, rfl, .inr ⟨i, rfl, hi, _, rfl, join2_le (by decide +kernel) (Nat.le_trans (PyProof.Rows.int_text_len_1921 hi) (by decide)), ?_⟩⟩
    refine ⟨_, rfl, join3_le (by decide +kernel) (Nat.le_trans (PyProof.Rows.int_text_len_1921 hi) (by decide)) (by decide +kernel), ?_⟩
    refine ⟨a, C, _, _, rfl, oex, hw, ha, fun dx nd ne => ?_⟩
    refine ⟨_, rfl, _, rfl, a, C, rfl, oex, hf, .inr ⟨dx, _, upd_same, by rw [upd_ne ne]; exact upd_same, (by show 1 ≤ 900; decide), ?_⟩⟩
    refine q dx _ _ nd ne (fun b o e hb => ?_) ?_ upd_same rfl
    · rw [upd_ne (ne_of_none e nd), upd_ne hb, upd_ne (ne_of_none e nd)]
      exact e
    · rw [upd_ne (Ne.symm ne)]
      exact upd_same
end
end K

namespace K
open PySem PySem.Spec PyProof.Rows L2
abbrev sStoppedI : Stmt := inClass (top 12) 0
section
variable {P : Program} {w : World} {K : PySem.W.Frag} {mg : Str → Option Value} {base : Heap}
theorem scStoppedI : FnScope ["self", "at", "kind"] ["self", "at", "kind"] (defScope sStoppedI) := ⟨rfl, rfl, rfl, by decide +kernel, rfl, by decide +kernel, by decide +kernel⟩
theorem join4s_le {c m e n : Str} (hc : (Str.empty ++ c).length ≤ 1000) (hm : m.length ≤ 2000) (he : e.length ≤ 1000) (hn : n.length ≤ 2000) : ((((Str.empty ++ c) ++ m) ++ e) ++ n).length ≤ sizeLine := by
  rw [strLen_append, strLen_append, strLen_append, sizeLine_eq]
  omega
theorem ok_stoppedI {f CS fS : Addr} {fd fdS : FuncData} {k : Nat} (F : Fun K "__init__" "Stopped.__init__" sStoppedI f fd) (T : SlipT K mg CS fS) (GS : FnOk P w K mg base CX0 (k + 1) fS fdS ["self", "word", "why"] (spSlip K)) (bS : Binds K fdS ["self", "word", "why"] []) : FnOk P w K mg base CX0 (k + 2) f fd ["self", "at", "kind"] (spInS K "at" "kind" "stopped") := by
  refine F.ok scStoppedI (fun vs H Q E h => ?_) (fun cdv A outer s H vs Q E hr h => ?_)
  · obtain ⟨a, C, i, y, rfl, _⟩ := h
    rfl
  · obtain ⟨a, C, i, y, rfl, hi, hy, oex, hw, hf, hg, ha, q⟩ := h
    refine ⟨_, pss_cons (ps_expr (pe_clsf (pe_glob (v := .ref CS) (by rfl) T.g rfl) T.r T.at_ GS hr T.kp bS pass0 (pa_cons (pv 0) (pa_cons pe_str (pa_cons (pe_joined (.cons pe_str (.cons (pe_fmt (pv 1)) (.cons pe_str (.cons (pe_fmt (pv 2)) .nil))))) pa_nil))))) (pss_cons (ps_ost (pv 0) (pv 1)) (pss_one (ps_ost (pv 0) (pv 2)))), ?_⟩
    refine ⟨rfl, _, rfl, _, rfl, by decide +kernel, _, rfl, .inr ⟨i, rfl, hi, _, rfl, join2_le (by decide +kernel) (Nat.le_trans (PyProof.Rows.int_text_len_1921 hi) (by decide)), ?_⟩⟩
    refine ⟨_, rfl, join3_le (by decide +kernel) (Nat.le_trans (PyProof.Rows.int_text_len_1921 hi) (by decide)) (by decide +kernel), _, rfl, .inl ⟨y, rfl, (by rw [sizeLine_eq]; omega), _, rfl, join4s_le (by decide +kernel) (Nat.le_trans (PyProof.Rows.int_text_len_1921 hi) (by decide)) (by decide +kernel) (by omega), ?_⟩⟩
    refine ⟨a, C, _, _, rfl, oex, hw, ha, fun dx nd ne => ?_⟩
    refine ⟨_, rfl, _, rfl, a, C, rfl, oex, hf, .inr ⟨dx, _, upd_same, by rw [upd_ne ne]; exact upd_same, (by show 1 ≤ 900; decide), ?_⟩⟩
    refine ⟨_, rfl, _, rfl, a, C, rfl, oex, hg, .inr ⟨dx, _, by rw [upd_ne (Ne.symm ne)]; exact upd_same, upd_same, (by show 2 ≤ 900; decide), ?_⟩⟩
    refine q dx _ nd ne (fun b o e hb => ?_) ?_ upd_same
    · rw [upd_ne (ne_of_none e nd), upd_ne (ne_of_none e nd), upd_ne hb, upd_ne (ne_of_none e nd)]
      exact e
    · rw [upd_ne (Ne.symm ne), upd_ne (Ne.symm ne)]
      exact upd_same
end
end K

namespace K
open PySem PySem.Spec PyProof.Rows L2
open Sw (T3 Dist)
abbrev sWild : Stmt := top 17
def spWild : Sp := fun vs H Q _ => ∃ (p q : Addr), vs = [.ref p] ∧ BoxAt H p q ∧ ∀ (z : Int) (H' : Hp), (z = -1 ∨ z = 8 ∨ z = 9 ∨ z = 10 ^ 20 ∨ z = -(10 ^ 30)) → BoxAt H' p q → But p H H' → Q (.int z) H'
theorem ifT {c : Bool} {A B : Prop} (hc : c = true) (h : A) : if c = true then A else B := by rw [if_pos hc]; exact h
theorem ifF {c : Bool} {A B : Prop} (hc : c = false) (h : B) : if c = true then A else B := by rw [hc, if_neg Bool.false_ne_true]; exact h
section
variable {P : Program} {w : World} {K : PySem.W.Frag} {mg : Str → Option Value} {base : Heap}
theorem scWild : FnScope ["_law_box_here"] ["_law_box_here"] (defScope sWild) := ⟨rfl, rfl, rfl, by decide +kernel, rfl, by decide +kernel, by decide +kernel⟩
theorem ok_wild {f fT : Addr} {fd fdT : FuncData} {k : Nat} (F : Fun K "_law_wild" "_law_wild" sWild f fd) (c_law_take : Cal P w K mg base (k + 1) "_law_take" fT fdT ["_law_box_here", "_law_sides"] spTake) : FnOk P w K mg base CX0 (k + 2) f fd ["_law_box_here"] spWild := by
  refine F.ok scWild (fun vs H Q E h => ?_) (fun cdv A outer s H vs Q E hr h => ?_)
  · obtain ⟨p, q, rfl, _⟩ := h
    rfl
  · obtain ⟨p, q, rfl, hB, kk⟩ := h
    refine ⟨_, (pss_one (ps_ret (pe_ix (r := rIxL K) ix_list (pe_lst (pa_cons (pe_un un_neg pe_int) (pa_cons pe_int (pa_cons pe_int (pa_cons (pe_op op_pow pe_int pe_int) (pa_cons (pe_un un_neg (pe_op op_pow pe_int pe_int)) pa_nil)))))) (pe_call c_law_take.ok hr (by rfl) c_law_take.g c_law_take.kp c_law_take.b .nil pass0 (pa_cons (pv 0) (pa_cons pe_int pa_nil))) (fun _ _ => rfl)))), ?_⟩
    refine ⟨1, rfl, 10, 20, rfl, rfl, ⟨by decide, by decide, by decide⟩, 10, 30, rfl, rfl, ⟨by decide, by decide, by decide⟩, _, rfl, (by show 5 ≤ sizeLine; decide), fun l nl => ?_⟩
    have s1 := same_upd (o := .lst [.int (-1), .int 8, .int 9, .int (10 ^ (20 : Int).toNat), .int (-(10 ^ (30 : Int).toNat))]) nl
    obtain ⟨op, ep⟩ := hB.p_some
    have nlp : l ≠ p := Ne.symm (ne_of_none ep nl)
    refine ⟨_, rfl, p, q, 5, rfl, hB.same s1, by omega, by omega, fun z H2 hz0 hz1 B2 b2 => ?_⟩
    have hl2 : H2 l = some (.lst [.int (-1), .int 8, .int 9, .int (10 ^ (20 : Int).toNat), .int (-(10 ^ (30 : Int).toNat))]) := b2 _ _ upd_same nlp
    have b : But p H H2 := (But.of_same s1).trans b2
    have : z = 0 ∨ z = 1 ∨ z = 2 ∨ z = 3 ∨ z = 4 := by omega
    rcases this with e | e | e | e | e
    · subst e; exact ⟨l, _, 0, _, rfl, rfl, SqL.of hl2, rfl, kk _ H2 (.inl rfl) B2 b⟩
    · subst e; exact ⟨l, _, 1, _, rfl, rfl, SqL.of hl2, rfl, kk _ H2 (.inr (.inl rfl)) B2 b⟩
    · subst e; exact ⟨l, _, 2, _, rfl, rfl, SqL.of hl2, rfl, kk _ H2 (.inr (.inr (.inl rfl))) B2 b⟩
    · subst e; exact ⟨l, _, 3, _, rfl, rfl, SqL.of hl2, rfl, kk _ H2 (.inr (.inr (.inr (.inl rfl)))) B2 b⟩
    · subst e; exact ⟨l, _, 4, _, rfl, rfl, SqL.of hl2, rfl, kk _ H2 (.inr (.inr (.inr (.inr rfl)))) B2 b⟩
end
end K


namespace K
open PySem PySem.Spec PyProof.Rows L2
open Sw (T3 Dist at? relax roundOf rounds IsNext Cand IsFar nbr candL WayTo lotOf)
abbrev sLaw : Stmt := top 18
theorem eqv_flats {H : Hp} {a b : Addr} {xs : List V} {m : Nat} (h1 : H a = some (.lst xs)) (h2 : H b = some (.lst xs)) (hf : ∀ v ∈ xs, flat v = true) (hl : xs.length ≤ 1000) : Eqv (m + 2) H (.ref a) (.ref b) := by
  refine .inr ⟨a, b, _, _, rfl, rfl, .inl ⟨h1, h2⟩, rfl, hl, fun i u v hu hv => ?_⟩
  rw [hu] at hv
  cases hv
  exact .inl ⟨rfl, hf _ (List.mem_of_getElem? hu)⟩
theorem eqv_flatt {H : Hp} {a b : Addr} {xs : List V} {m : Nat} (h1 : H a = some (.tup xs)) (h2 : H b = some (.tup xs)) (hf : ∀ v ∈ xs, flat v = true) (hl : xs.length ≤ 1000) : Eqv (m + 2) H (.ref a) (.ref b) := by
  refine .inr ⟨a, b, _, _, rfl, rfl, .inr ⟨h1, h2⟩, rfl, hl, fun i u v hu hv => ?_⟩
  rw [hu] at hv
  cases hv
  exact .inl ⟨rfl, hf _ (List.mem_of_getElem? hu)⟩
theorem eqv_pair {H : Hp} {a b : Addr} {x u v : V} {m : Nat} (h1 : H a = some (.tup [x, u])) (h2 : H b = some (.tup [x, v])) (hx : flat x = true) (h : Eqv (m + 1) H u v) : Eqv (m + 2) H (.ref a) (.ref b) := by
  refine .inr ⟨a, b, _, _, rfl, rfl, .inr ⟨h1, h2⟩, rfl, by show 2 ≤ 1000; decide, fun i y z hy hz => ?_⟩
  match i, hy, hz with
  | 0, hy, hz => cases hy; cases hz; exact .inl ⟨rfl, hx⟩
  | 1, hy, hz => cases hy; cases hz; exact h
  | i + 2, hy, hz => simp at hy
theorem flat_ints (l : List Nat) : ∀ v ∈ l.map (fun h => V.int (h : Nat)), flat v = true := fun v m => by
  obtain ⟨h, _, rfl⟩ := List.mem_map.mp m
  rfl
theorem log_small {i : Int} (h : i.natAbs ≤ 100) : i.natAbs.log2 < 1920 := Nat.lt_of_le_of_lt (Nat.log2_le_self _) (by omega)
theorem cut_last (ns : List Int) : cutV ((ns ++ [9]).map V.int) none (some (-1)) = ns.map V.int := by
  unfold cutV
  have e : HT.sIx ((ns ++ [9]).map V.int).length ((ns ++ [9]).map V.int).length (some (-1)) = ns.length := by
    show (if (-1 : Int) < 0 then ((-1 : Int) + (((ns ++ [9]).map V.int).length : Int)).toNat else min (-1 : Int).toNat ((ns ++ [9]).map V.int).length) = _
    rw [if_pos (by decide), List.length_map, List.length_append, List.length_singleton]
    omega
  rw [e, HT.sIx_none, List.drop_zero, Nat.sub_zero, List.map_append, List.take_left' (by rw [List.length_map])]
theorem new_at {H H' : Hp} {p : Addr} {o : HO} (n : H p = none) (e : upd H p o = H') : Same H H' ∧ H' p = some o := by
  subst e
  exact ⟨same_upd n, upd_same⟩
def wordsL : List Str := ["toomany", "nohouse", "notie", "nottaken", "notunnel", "short", "noway", "lone", "baddeed", "badpage", "stopped"]
theorem words_split : Txt.split "toomany nohouse notie nottaken notunnel short noway lone baddeed badpage stopped" " " = wordsL := by decide +kernel
theorem log_w {z : Int} (h : z = -1 ∨ z = 8 ∨ z = 9 ∨ z = 10 ^ 20 ∨ z = -(10 ^ 30)) : z.natAbs.log2 < 1920 := by
  rcases h with e | e | e | e | e <;> subst e <;> decide +kernel
section
variable {P : Program} {w : World} {K : PySem.W.Frag} {mg : Str → Option Value} {base : Heap}
theorem scLaw : FnScope ["_law_script", "_law_box_here", "_law_turn", "_law_one", "_law_other", "_law_lot", "_law_k", "_law_text", "_law_tie", "_law_stop", "_law_found", "_law_due", "_law_some", "_law_words", "_law_refusal"] ["_law_script"] (defScope sLaw) := ⟨rfl, rfl, rfl, by decide +kernel, rfl, by decide +kernel, by decide +kernel⟩
set_option maxHeartbeats 16000000 in
theorem ok_law {f fB fT fS' fW CS fS CTooMany fTooMany CNoHouse fNoHouse CNotTaken fNotTaken CNoTunnel fNoTunnel CShort fShort CNoWay fNoWay CLone fLone CBadDeed fBadDeed CBadPage fBadPage CNoTie fNoTie CStopped fStopped : Addr} {fd fdB fdT fdS fdW fdTooMany fdNoHouse fdNotTaken fdNoTunnel fdShort fdNoWay fdLone fdBadDeed fdBadPage fdNoTie fdStopped : FuncData} (F : Fun K "law" "law" sLaw f fd) (T : BT mg) (TS : SlipT K mg CS fS)
    (c_law_box : Cal P w K mg base 11 "_law_box" fB fdB ["_law_script"] (spBox K)) (c_law_take : Cal P w K mg base 11 "_law_take" fT fdT ["_law_box_here", "_law_sides"] spTake)
    (c_law_same : Cal P w K mg base 11 "_law_same" fS' fdS ["_law_found", "_law_due"] (spSame 11)) (c_law_wild : Cal P w K mg base 11 "_law_wild" fW fdW ["_law_box_here"] spWild)
    (cTooMany : ExcC P w K mg base 10 "TooMany" CTooMany fTooMany fdTooMany ["self", "bound"] (spIn1 K "bound" "toomany" askInt gotSame)) (flTooMany : PySem.W.findIn K (.ref CTooMany) "bound" = some none) (gTooMany : ExcG K CS CTooMany)
    (cNoHouse : ExcC P w K mg base 10 "NoHouse" CNoHouse fNoHouse fdNoHouse ["self", "house"] (spIn1 K "house" "nohouse" askInt gotSame)) (flNoHouse : PySem.W.findIn K (.ref CNoHouse) "house" = some none) (gNoHouse : ExcG K CS CNoHouse)
    (cNotTaken : ExcC P w K mg base 10 "NotTaken" CNotTaken fNotTaken fdNotTaken ["self", "number"] (spIn1 K "number" "nottaken" askInt gotSame)) (flNotTaken : PySem.W.findIn K (.ref CNotTaken) "number" = some none) (gNotTaken : ExcG K CS CNotTaken)
    (cNoTunnel : ExcC P w K mg base 10 "NoTunnel" CNoTunnel fNoTunnel fdNoTunnel ["self", "number"] (spIn1 K "number" "notunnel" askInt gotSame)) (flNoTunnel : PySem.W.findIn K (.ref CNoTunnel) "number" = some none) (gNoTunnel : ExcG K CS CNoTunnel)
    (cShort : ExcC P w K mg base 10 "Short" CShort fShort fdShort ["self", "house"] (spIn1 K "house" "short" askInt gotSame)) (flShort : PySem.W.findIn K (.ref CShort) "house" = some none) (gShort : ExcG K CS CShort)
    (cNoWay : ExcC P w K mg base 10 "NoWay" CNoWay fNoWay fdNoWay ["self", "lot"] (spIn1 K "lot" "noway" (askLot K) gotLot)) (flNoWay : PySem.W.findIn K (.ref CNoWay) "lot" = some none) (gNoWay : ExcG K CS CNoWay)
    (cLone : ExcC P w K mg base 10 "Lone" CLone fLone fdLone ["self", "lot"] (spIn1 K "lot" "lone" (askLot K) gotLot)) (flLone : PySem.W.findIn K (.ref CLone) "lot" = some none) (gLone : ExcG K CS CLone)
    (cBadDeed : ExcC P w K mg base 10 "BadDeed" CBadDeed fBadDeed fdBadDeed ["self", "said"] (spIn1 K "said" "baddeed" askStr gotSame)) (flBadDeed : PySem.W.findIn K (.ref CBadDeed) "said" = some none) (gBadDeed : ExcG K CS CBadDeed)
    (cBadPage : ExcC P w K mg base 10 "BadPage" CBadPage fBadPage fdBadPage ["self", "row"] (spIn1 K "row" "badpage" askInt gotSame)) (flBadPage : PySem.W.findIn K (.ref CBadPage) "row" = some none) (gBadPage : ExcG K CS CBadPage)
    (cNoTie : ExcC P w K mg base 10 "NoTie" CNoTie fNoTie fdNoTie ["self", "one", "other"] (spIn2 K "one" "other" "notie")) (flNoTie1 : PySem.W.findIn K (.ref CNoTie) "one" = some none) (flNoTie2 : PySem.W.findIn K (.ref CNoTie) "other" = some none) (gNoTie : ExcG K CS CNoTie)
    (cStopped : ExcC P w K mg base 10 "Stopped" CStopped fStopped fdStopped ["self", "at", "kind"] (spInS K "at" "kind" "stopped")) (flStopped1 : PySem.W.findIn K (.ref CStopped) "at" = some none) (flStopped2 : PySem.W.findIn K (.ref CStopped) "kind" = some none) (gStopped : ExcG K CS CStopped) : FnOk P w K mg base CX0 12 f fd ["_law_script"] (spLaw K) := by
  refine F.ok scLaw (fun vs H Q E h => ?_) (fun cdv A outer s H vs Q E hr h => ?_)
  · obtain ⟨a, ns, rfl, _⟩ := h
    rfl
  · obtain ⟨a, ns, rfl, hS, hlen, kk⟩ := h
    refine ⟨_, (pss_cons (ps_set (i := 1) scLaw.nd rfl (.inr rfl) (pe_call c_law_box.ok hr (by rfl) c_law_box.g c_law_box.kp c_law_box.b .nil pass0 (pa_cons (pv 0) pa_nil)))
      (pss_cons (ps_for PassesOwn.never rfl (pi_range1 (by rfl) T.range (pa_cons pe_int pa_nil)) (pg_name (i := 2) scLaw.nd rfl (Or.inl rfl))
        (pss_cons (ps_par (i := 3) (j := 4) (by rfl) scLaw.nd rfl rfl (by decide) rfl rfl (pa_cons (pe_call c_law_wild.ok hr (by rfl) c_law_wild.g c_law_wild.kp c_law_wild.b .nil pass0 (pa_cons (pv 1) pa_nil)) (pa_cons (pe_call c_law_take.ok hr (by rfl) c_law_take.g c_law_take.kp c_law_take.b .nil pass0 (pa_cons (pv 1) (pa_cons pe_int pa_nil))) pa_nil)) (by rfl))
        (pss_cons (ps_setLc (i := 5) (own := [("_law_k", 6)]) (g := (gName 6)) (tt := tYes) rfl scLaw.nd rfl rfl (sw_true rfl rfl rfl (by decide +kernel)) (by exact (pi_range1 (by rfl) T.range (pa_cons (pe_call c_law_take.ok hr (by rfl) c_law_take.g c_law_take.kp c_law_take.b .nil pass0 (pa_cons (pv 1) (pa_cons pe_int pa_nil))) pa_nil))) (blkOk_by (own := [("_law_k", 6)]) (N := ["_law_script", "_law_box_here", "_law_turn", "_law_one", "_law_other", "_law_lot", "_law_k", "_law_text", "_law_tie", "_law_stop", "_law_found", "_law_due", "_law_some", "_law_words", "_law_refusal"]) (sc := (defScope sLaw)) (by decide +kernel)) (fun _ _ _ _ _ => by exact (pg_name (i := 6) scLaw.nd rfl (Or.inl rfl))) (fun _ _ _ _ _ => by exact pts_nil) (fun _ _ _ _ _ => by exact (pe_call c_law_take.ok hr (by rfl) c_law_take.g c_law_take.kp c_law_take.b .nil pass0 (pa_cons (pv 1) (pa_cons pe_int pa_nil)))))
        (pss_cons (ps_set (i := 7) scLaw.nd rfl (.inl rfl) (pe_ix (r := rIxL K) ix_list (pe_lst (pa_cons pe_str (pa_cons pe_str (pa_cons pe_str pa_nil)))) (pe_call c_law_take.ok hr (by rfl) c_law_take.g c_law_take.kp c_law_take.b .nil pass0 (pa_cons (pv 1) (pa_cons pe_int pa_nil))) (fun _ _ => rfl)))
        (pss_cons (ps_par (i := 8) (j := 9) (by rfl) scLaw.nd rfl rfl (by decide) rfl rfl (pa_cons (pe_new2 (by exact cNoTie) (by exact flNoTie1) (by exact flNoTie2) hr (by rfl) (pa_cons (pv 3) (pa_cons (pv 4) pa_nil))) (pa_cons (pe_newS (by exact cStopped) (by exact flStopped1) (by exact flStopped2) hr (by rfl) (pa_cons (pv 4) (pa_cons (pv 7) pa_nil))) pa_nil)) (by rfl))
        (pss_cons (ps_set (i := 10) scLaw.nd rfl (.inl rfl) (pe_lst (pa_cons (pe_xv (pe_new1 (by exact cTooMany) monoI (by exact flTooMany) hr (by rfl) (pa_cons (pv 4) pa_nil))) (pa_cons (pe_xv (pe_new1 (by exact cNoHouse) monoI (by exact flNoHouse) hr (by rfl) (pa_cons (pv 3) pa_nil))) (pa_cons (pe_tup (pa_cons (pe_xv (pv 8)) (pa_cons (pe_xv (pv 8)) pa_nil))) (pa_cons (pe_xv (pe_new1 (by exact cNotTaken) monoI (by exact flNotTaken) hr (by rfl) (pa_cons (pv 3) pa_nil))) pa_nil))))))
        (pss_cons (ps_set (i := 10) scLaw.nd rfl (.inl rfl) (pe_op op_cat (pv 10) (pe_lst (pa_cons (pe_xv (pe_new1 (by exact cNoTunnel) monoI (by exact flNoTunnel) hr (by rfl) (pa_cons (pv 3) pa_nil))) (pa_cons (pe_xv (pe_new1 (by exact cShort) monoI (by exact flShort) hr (by rfl) (pa_cons (pv 4) pa_nil))) (pa_cons (pe_xv (pe_new1 (by exact cNoWay) monoL (by exact flNoWay) hr (by rfl) (pa_cons (pe_callTy call_list_of (by rfl) T.list (by decide +kernel) (pa_cons (pv 5) pa_nil)) pa_nil))) (pa_cons (pe_xv (pe_new1 (by exact cLone) monoL (by exact flLone) hr (by rfl) (pa_cons (pe_callTy call_list_of (by rfl) T.list (by decide +kernel) (pa_cons (pv 5) pa_nil)) pa_nil))) pa_nil)))))))
        (pss_cons (ps_set (i := 10) scLaw.nd rfl (.inl rfl) (pe_op op_cat (pv 10) (pe_lst (pa_cons (pe_xv (pe_new1 (by exact cBadDeed) monoS (by exact flBadDeed) hr (by rfl) (pa_cons (pv 7) pa_nil))) (pa_cons (pe_xv (pe_new1 (by exact cBadPage) monoI (by exact flBadPage) hr (by rfl) (pa_cons (pv 4) pa_nil))) (pa_cons (pe_tup (pa_cons (pe_xv (pv 9)) (pa_cons (pe_xv (pv 9)) pa_nil))) pa_nil))))))
        (pss_cons (ps_set (i := 11) scLaw.nd rfl (.inl rfl) (pe_lst (pa_cons (pv 4) (pa_cons (pv 3) (pa_cons (pe_tup (pa_cons (pv 3) (pa_cons (pv 4) pa_nil))) (pa_cons (pv 3) (pa_cons (pv 3) (pa_cons (pv 4) (pa_cons (pv 5) (pa_cons (pv 5) (pa_cons (pv 7) (pa_cons (pv 4) (pa_cons (pe_tup (pa_cons (pv 4) (pa_cons (pv 7) pa_nil))) pa_nil)))))))))))))
        (pss_cons (ps_if (pt_not (pt_val (pe_call c_law_same.ok hr (by rfl) c_law_same.g c_law_same.kp c_law_same.b .nil pass0 (pa_cons (pv 10) (pa_cons (pv 11) pa_nil)))))
          (pss_one (ps_ret pe_bl))
          pss_nil)
        (pss_cons (ps_set (i := 12) scLaw.nd rfl (.inl rfl) (pe_lst (pa_cons (pe_new1 (by exact cTooMany) monoI (by exact flTooMany) hr (by rfl) (pa_cons (pv 3) pa_nil)) (pa_cons (pe_new1 (by exact cNoHouse) monoI (by exact flNoHouse) hr (by rfl) (pa_cons (pv 3) pa_nil)) (pa_cons (pv 8) (pa_cons (pe_new1 (by exact cNotTaken) monoI (by exact flNotTaken) hr (by rfl) (pa_cons (pv 3) pa_nil)) (pa_cons (pe_new1 (by exact cNoTunnel) monoI (by exact flNoTunnel) hr (by rfl) (pa_cons (pv 3) pa_nil)) (pa_cons (pe_new1 (by exact cShort) monoI (by exact flShort) hr (by rfl) (pa_cons (pv 3) pa_nil)) (pa_cons (pe_new1 (by exact cNoWay) monoL (by exact flNoWay) hr (by rfl) (pa_cons (pv 5) pa_nil)) (pa_cons (pe_new1 (by exact cLone) monoL (by exact flLone) hr (by rfl) (pa_cons (pv 5) pa_nil)) pa_nil))))))))))
        (pss_cons (ps_set (i := 12) scLaw.nd rfl (.inl rfl) (pe_op op_cat (pv 12) (pe_lst (pa_cons (pe_new1 (by exact cBadDeed) monoS (by exact flBadDeed) hr (by rfl) (pa_cons (pv 7) pa_nil)) (pa_cons (pe_new1 (by exact cBadPage) monoI (by exact flBadPage) hr (by rfl) (pa_cons (pv 4) pa_nil)) (pa_cons (pv 9) pa_nil))))))
        (pss_cons (ps_set (i := 13) scLaw.nd rfl (.inl rfl) (pe_split pe_str pe_str))
        (pss_cons (ps_expr (pe_bm PySem.F.plainAttrs_list PySem.F.slot_list_append PySem.F.type_list_append mt_append (pv 5) (pa_cons pe_int pa_nil)))
        (pss_cons (ps_if (pt_not (pt_val (pe_call c_law_same.ok hr (by rfl) c_law_same.g c_law_same.kp c_law_same.b .nil pass0 (pa_cons (pe_lst (pa_cons (pe_xv (pe_ix (r := rIxL K) ix_list (pv 12) pe_int (fun _ _ => rfl))) (pa_cons (pe_xv (pe_ix (r := rIxL K) ix_list (pv 12) pe_int (fun _ _ => rfl))) pa_nil))) (pa_cons (pe_lst (pa_cons (pe_slice sl_list (pv 5) po_none (po_some (pe_un un_neg pe_int))) (pa_cons (pe_slice sl_list (pv 5) po_none (po_some (pe_un un_neg pe_int))) pa_nil))) pa_nil)))))
          (pss_one (ps_ret pe_bl))
          pss_nil)
        (pss_cons (ps_if (pt_not (pt_val (pe_call c_law_same.ok hr (by rfl) c_law_same.g c_law_same.kp c_law_same.b .nil pass0 (pa_cons (pe_lc (own := [("_law_refusal", 14)]) (g := (gName 14)) (tt := tYes) rfl scLaw.nd (by exact (pi_list (pv 12))) (blkOk_by (own := [("_law_refusal", 14)]) (N := ["_law_script", "_law_box_here", "_law_turn", "_law_one", "_law_other", "_law_lot", "_law_k", "_law_text", "_law_tie", "_law_stop", "_law_found", "_law_due", "_law_some", "_law_words", "_law_refusal"]) (sc := (defScope sLaw)) (by decide +kernel)) (fun _ _ _ _ _ => by exact (pg_name (i := 14) scLaw.nd rfl (Or.inl rfl))) (fun _ _ _ _ _ => by exact pts_nil) (fun _ _ _ _ _ => by exact (pe_xvK (K' := K) rfl (pv 14)))) (pa_cons (pv 13) pa_nil)))))
          (pss_one (ps_ret pe_bl))
          pss_nil)
        (pss_one (ps_if (pt_not (pt_val (pe_callB (cr_all rfl) (by rfl) T.all (by decide +kernel) (pa_cons (pe_lc (own := [("_law_refusal", 14)]) (g := (gName 14)) (tt := tYes) rfl scLaw.nd (by exact (pi_list (pv 12))) (blkOk_by (own := [("_law_refusal", 14)]) (N := ["_law_script", "_law_box_here", "_law_turn", "_law_one", "_law_other", "_law_lot", "_law_k", "_law_text", "_law_tie", "_law_stop", "_law_found", "_law_due", "_law_some", "_law_words", "_law_refusal"]) (sc := (defScope sLaw)) (by decide +kernel)) (fun _ _ _ _ _ => by exact (pg_name (i := 14) scLaw.nd rfl (Or.inl rfl))) (fun _ _ _ _ _ => by exact pts_nil) (fun _ _ _ _ _ => by exact (pe_and (pe_callB (r := rIsV K) call_isV (by rfl) T.isinstance (by decide +kernel) (pa_cons (pv 14) (pa_cons (pe_glob (v := .ref CS) (by rfl) TS.g rfl) pa_nil))) (pe_one (pe_callB (r := rIsV K) call_isV (by rfl) T.isinstance (by decide +kernel) (pa_cons (pv 14) (pa_cons (pe_bltn (v := .ty "ValueError") (by rfl) TS.mV (by decide +kernel) rfl) pa_nil))))))) pa_nil))))
          (pss_one (ps_ret pe_bl))
          pss_nil))))))))))))))))))
      (pss_one (ps_ret pe_bl)))), ?_⟩
    refine ⟨_, rfl, a, ns, rfl, hS, hlen, fun p q H1 np nq B1 s1 => ?_⟩
    refine ⟨3, rfl, by decide, by decide, for_range (n := 3) (fun i σ H' => ∃ y2 y3 y4 y5 y6 y7 y8 y9 y10 y11 y12 y13 y14, σ = [some (.ref a), some (.ref p), y2, y3, y4, y5, y6, y7, y8, y9, y10, y11, y12, y13, y14] ∧ BoxAt H' p q) ⟨_, _, _, _, _, _, _, _, _, _, _, _, _, rfl, B1⟩ ?_ ?_⟩
    · rintro i σ H2 hi ⟨y2, y3, y4, y5, y6, y7, y8, y9, y10, y11, y12, y13, y14, rfl, B2⟩
      refine ⟨_, rfl, p, q, rfl, B2, fun one H3 hone B3 b3 => ?_⟩
      refine ⟨_, rfl, p, q, 100, rfl, B3, by omega, by omega, fun oth H4 ho0 ho1 B4 b4 => ⟨_, _, rfl, ?_⟩⟩
      have l1 := log_w hone
      have l2 : oth.natAbs.log2 < 1920 := log_small (by omega)
      -- lot
      refine ⟨_, rfl, p, q, 4, rfl, B4, by omega, by omega, fun c H5 hc0 hc1 B5 b5 => ?_⟩
      obtain ⟨m, em⟩ : ∃ m : Nat, c = (m : Nat) := ⟨c.toNat, by omega⟩
      subst em
      refine ⟨m, rfl, by omega, by omega, fun D nD => ?_⟩
      have hDp : D ≠ p := by
        obtain ⟨o5, e5⟩ := B5.p_some
        exact Ne.symm (ne_of_none e5 nD)
      have hDq : D ≠ q := by
        obtain ⟨o5, e5⟩ := B5.q_some
        exact Ne.symm (ne_of_none e5 nD)
      refine lc_range (lo := 0) (n := m) (fun i H' => ∃ ls : List Int, H' D = some (.lst (ls.map V.int)) ∧ ls.length = i ∧ (∀ n ∈ ls, 0 ≤ n ∧ n < 8) ∧ BoxAt H' p q) ⟨[], upd_same, rfl, fun n z => (by cases z), B5.putN nD⟩ ?_ ?_
      · rintro j H6 hj ⟨ls, hD, hll, hld, B6⟩
        refine ⟨rfl, ?_⟩
        refine ⟨_, rfl, p, q, 8, rfl, B6, by omega, by omega, fun r H7 hr0 hr1 B7 b7 => ?_⟩
        refine ⟨_, b7 _ _ hD hDp, by rw [List.length_map]; exact small1000 (by omega), ls ++ [r], ?_, by rw [List.length_append, hll]; rfl, fun n hn => ?_, B7.put hDp hDq⟩
        · rw [upd_same, List.map_append]
          rfl
        · rcases List.mem_append.mp hn with z | z
          · exact hld n z
          · simp at z
            subst z
            exact ⟨hr0, hr1⟩
      · rintro H6 ⟨ls, hD6, hll, hld, B6⟩
        -- text
        refine ⟨(by show 3 ≤ sizeLine; decide), fun tl ntl => ?_⟩
        have s7 := same_upd (o := .lst [.str "", .str "sing", .str "no tie"]) ntl
        have htp : tl ≠ p := by
          obtain ⟨o5, e5⟩ := B6.p_some
          exact Ne.symm (ne_of_none e5 ntl)
        refine ⟨_, rfl, p, q, 3, rfl, B6.same s7, by omega, by omega, fun z H8 hz0 hz1 B8 b8 => ?_⟩
        have htl : H8 tl = some (.lst [.str "", .str "sing", .str "no tie"]) := b8 _ _ upd_same htp
        have hD8 : H8 D = some (.lst (ls.map V.int)) := b8 _ _ (s7 _ _ hD6) hDp
        have hy : ∃ y : Str, atI [V.str "", V.str "sing", V.str "no tie"] z = some (.str y) ∧ y.length ≤ 1000 := by
          have : z = 0 ∨ z = 1 ∨ z = 2 := by omega
          rcases this with e | e | e
          · subst e; exact ⟨"", rfl, by decide +kernel⟩
          · subst e; exact ⟨"sing", rfl, by decide +kernel⟩
          · subst e; exact ⟨"no tie", rfl, by decide +kernel⟩
        obtain ⟨y, ey, hyl⟩ := hy
        refine ⟨tl, _, _, _, rfl, rfl, SqL.of htl, ey, ?_⟩
        clear htl ey hz0 hz1 b8 htp ntl s7
        -- tie, stop
        refine ⟨_, rfl, _, rfl, one, oth, rfl, l1, l2, fun tie H9 ntie s9 xtie => ?_⟩
        refine ⟨_, rfl, _, rfl, oth, y, rfl, l2, hyl, fun stp H10 nstp s10 xstp => ⟨_, _, rfl, ?_⟩⟩
        have B10 := B8.same (s9.trans s10)
        have hD10 := s10 _ _ (s9 _ _ hD8)
        have xtie10 := xtie.same s10
        have al : askLot K H10 (.ref D) := ⟨D, ls, rfl, hD10, by omega, fun n m => by have := hld n m; omega⟩
        -- found, the first four
        refine ⟨_, rfl, _, rfl, ⟨oth, rfl, l2⟩, fun e1 v1 G1 ne1 z1 x1 g1 => ⟨e1, CTooMany, _, v1, rfl, gTooMany.xf, flTooMany, x1, rfl, ?_⟩⟩
        obtain rfl : v1 = .int oth := g1
        refine ⟨_, rfl, _, rfl, ⟨one, rfl, l1⟩, fun e2 v2 G2 ne2 z2 x2 g2 => ⟨e2, CNoHouse, _, v2, rfl, gNoHouse.xf, flNoHouse, x2, rfl, ?_⟩⟩
        obtain rfl : v2 = .int one := g2
        refine ⟨_, rfl, tie, CNoTie, _, _, rfl, gNoTie.xf, flNoTie1, (xtie10.same (z1.trans z2)), rfl, _, rfl, tie, CNoTie, _, _, rfl, gNoTie.xf, flNoTie2, (xtie10.same (z1.trans z2)), rfl, (by show 2 ≤ sizeLine; decide), fun t1 nt1 => ?_⟩
        generalize hE3 : upd G2 t1 (.tup [.int one, .int oth]) = G3
        obtain ⟨z3, h_t1⟩ := new_at nt1 hE3
        clear hE3
        refine ⟨_, rfl, _, rfl, ⟨one, rfl, l1⟩, fun e4 v4 G4 ne4 z4 x4 g4 => ⟨e4, CNotTaken, _, v4, rfl, gNotTaken.xf, flNotTaken, x4, rfl, ?_⟩⟩
        obtain rfl : v4 = .int one := g4
        refine ⟨(by show 4 ≤ sizeLine; decide), fun f1 nf1 => ?_⟩
        generalize hE5 : upd G4 f1 (.lst [.int oth, .int one, .ref t1, .int one]) = G5
        obtain ⟨z5, h_f1⟩ := new_at nf1 hE5
        clear hE5
        refine ⟨_, rfl, ?_⟩
        refine ⟨_, rfl, _, rfl, ⟨one, rfl, l1⟩, fun e6 v6 G6 ne6 z6 x6 g6 => ⟨e6, CNoTunnel, _, v6, rfl, gNoTunnel.xf, flNoTunnel, x6, rfl, ?_⟩⟩
        obtain rfl : v6 = .int one := g6
        refine ⟨_, rfl, _, rfl, ⟨oth, rfl, l2⟩, fun e7 v7 G7 ne7 z7 x7 g7 => ⟨e7, CShort, _, v7, rfl, gShort.xf, flShort, x7, rfl, ?_⟩⟩
        obtain rfl : v7 = .int oth := g7
        refine ⟨_, rfl, D, _, rfl, .inl (SqL.of ((z1.trans (z2.trans (z3.trans (z4.trans (z5.trans (z6.trans z7)))))) _ _ hD10)), fun LNoWay nLNoWay => ?_⟩
        generalize hE8 : upd G7 LNoWay (.lst (ls.map V.int)) = G8
        obtain ⟨z8, h_LNoWay⟩ := new_at nLNoWay hE8
        clear hE8
        refine ⟨_, rfl, ⟨LNoWay, ls, rfl, h_LNoWay, by omega, fun n m => by have := hld n m; omega⟩, fun e9 v9 G9 ne9 z9 x9 g9 => ⟨e9, CNoWay, _, v9, rfl, gNoWay.xf, flNoWay, x9, rfl, ?_⟩⟩
        obtain ⟨l9, m9, xs9, eq1, rfl, hl9, hm9, hne9, hnw9⟩ := g9
        cases eq1
        have hq9 := (z9 _ _ h_LNoWay)
        rw [hl9] at hq9
        cases hq9
        refine ⟨_, rfl, D, _, rfl, .inl (SqL.of ((z1.trans (z2.trans (z3.trans (z4.trans (z5.trans (z6.trans (z7.trans (z8.trans z9)))))))) _ _ hD10)), fun LLone nLLone => ?_⟩
        generalize hE10 : upd G9 LLone (.lst (ls.map V.int)) = G10
        obtain ⟨z10, h_LLone⟩ := new_at nLLone hE10
        clear hE10
        refine ⟨_, rfl, ⟨LLone, ls, rfl, h_LLone, by omega, fun n m => by have := hld n m; omega⟩, fun e11 v11 G11 ne11 z11 x11 g11 => ⟨e11, CLone, _, v11, rfl, gLone.xf, flLone, x11, rfl, ?_⟩⟩
        obtain ⟨l11, m11, xs11, eq1, rfl, hl11, hm11, hne11, hnw11⟩ := g11
        cases eq1
        have hq11 := (z11 _ _ h_LLone)
        rw [hl11] at hq11
        cases hq11
        refine ⟨(by show 4 ≤ sizeLine; decide), fun f2 nf2 => ?_⟩
        generalize hE12 : upd G11 f2 (.lst [.int one, .int oth, .ref m9, .ref m11]) = G12
        obtain ⟨z12, h_f2⟩ := new_at nf2 hE12
        clear hE12
        refine ⟨f1, f2, _, _, rfl, rfl, ((z6.trans (z7.trans (z8.trans (z9.trans (z10.trans (z11.trans z12)))))) _ _ h_f1), h_f2, (by show 8 ≤ sizeLine; decide), fun f3 nf3 => ?_⟩
        generalize hE13 : upd G12 f3 (.lst ([.int oth, .int one, .ref t1, .int one] ++ [.int one, .int oth, .ref m9, .ref m11])) = G13
        obtain ⟨z13, h_f3⟩ := new_at nf3 hE13
        clear hE13
        refine ⟨_, rfl, ?_⟩
        refine ⟨_, rfl, _, rfl, ⟨y, rfl, hyl⟩, fun e14 v14 G14 ne14 z14 x14 g14 => ⟨e14, CBadDeed, _, v14, rfl, gBadDeed.xf, flBadDeed, x14, rfl, ?_⟩⟩
        obtain rfl : v14 = .str y := g14
        refine ⟨_, rfl, _, rfl, ⟨oth, rfl, l2⟩, fun e15 v15 G15 ne15 z15 x15 g15 => ⟨e15, CBadPage, _, v15, rfl, gBadPage.xf, flBadPage, x15, rfl, ?_⟩⟩
        obtain rfl : v15 = .int oth := g15
        refine ⟨_, rfl, stp, CStopped, _, _, rfl, gStopped.xf, flStopped1, (xstp.same (z1.trans (z2.trans (z3.trans (z4.trans (z5.trans (z6.trans (z7.trans (z8.trans (z9.trans (z10.trans (z11.trans (z12.trans (z13.trans (z14.trans z15))))))))))))))), rfl, _, rfl, stp, CStopped, _, _, rfl, gStopped.xf, flStopped2, (xstp.same (z1.trans (z2.trans (z3.trans (z4.trans (z5.trans (z6.trans (z7.trans (z8.trans (z9.trans (z10.trans (z11.trans (z12.trans (z13.trans (z14.trans z15))))))))))))))), rfl, (by show 2 ≤ sizeLine; decide), fun t2 nt2 => ?_⟩
        generalize hE16 : upd G15 t2 (.tup [.int oth, .str y]) = G16
        obtain ⟨z16, h_t2⟩ := new_at nt2 hE16
        clear hE16
        refine ⟨(by show 3 ≤ sizeLine; decide), fun f4 nf4 => ?_⟩
        generalize hE17 : upd G16 f4 (.lst [.str y, .int oth, .ref t2]) = G17
        obtain ⟨z17, h_f4⟩ := new_at nf4 hE17
        clear hE17
        refine ⟨f3, f4, _, _, rfl, rfl, ((z14.trans (z15.trans (z16.trans z17))) _ _ h_f3), h_f4, (by show 11 ≤ sizeLine; decide), fun f5 nf5 => ?_⟩
        generalize hE18 : upd G17 f5 (.lst (([.int oth, .int one, .ref t1, .int one] ++ [.int one, .int oth, .ref m9, .ref m11]) ++ [.str y, .int oth, .ref t2])) = G18
        obtain ⟨z18, h_f5⟩ := new_at nf5 hE18
        clear hE18
        refine ⟨_, rfl, _, rfl, _, rfl, _, rfl, (by show 2 ≤ sizeLine; decide), fun t3 nt3 => ?_⟩
        generalize hE19 : upd G18 t3 (.tup [.int one, .int oth]) = G19
        obtain ⟨z19, h_t3⟩ := new_at nt3 hE19
        clear hE19
        refine ⟨_, rfl, _, rfl, _, rfl, _, rfl, _, rfl, _, rfl, _, rfl, _, rfl, _, rfl, (by show 2 ≤ sizeLine; decide), fun t4 nt4 => ?_⟩
        generalize hE20 : upd G19 t4 (.tup [.int oth, .str y]) = G20
        obtain ⟨z20, h_t4⟩ := new_at nt4 hE20
        clear hE20
        refine ⟨(by show 11 ≤ sizeLine; decide), fun du ndu => ?_⟩
        generalize hE21 : upd G20 du (.lst [.int oth, .int one, .ref t3, .int one, .int one, .int oth, .ref D, .ref D, .str y, .int oth, .ref t4]) = G21
        obtain ⟨z21, h_du⟩ := new_at ndu hE21
        clear hE21
        refine ⟨_, rfl, _, rfl, _, _, rfl, .inr ⟨f5, du, _, _, rfl, rfl, .inl ⟨((z19.trans (z20.trans z21)) _ _ h_f5), h_du⟩, rfl, (by show 11 ≤ 1000; decide), fun m u v hu hv => ?_⟩, fun G60 z60 => ⟨_, rfl, iteF ?_⟩⟩
        · match m, hu, hv with
          | 0, hu, hv => cases hu; cases hv; exact .inl ⟨rfl, rfl⟩
          | 1, hu, hv => cases hu; cases hv; exact .inl ⟨rfl, rfl⟩
          | 2, hu, hv => cases hu; cases hv; exact eqv_flatt ((z4.trans (z5.trans (z6.trans (z7.trans (z8.trans (z9.trans (z10.trans (z11.trans (z12.trans (z13.trans (z14.trans (z15.trans (z16.trans (z17.trans (z18.trans (z19.trans (z20.trans z21))))))))))))))))) _ _ h_t1) ((z20.trans z21) _ _ h_t3) (fun v m => by simp at m; rcases m with e | e <;> subst e <;> rfl) (by show 2 ≤ 1000; decide)
          | 3, hu, hv => cases hu; cases hv; exact .inl ⟨rfl, rfl⟩
          | 4, hu, hv => cases hu; cases hv; exact .inl ⟨rfl, rfl⟩
          | 5, hu, hv => cases hu; cases hv; exact .inl ⟨rfl, rfl⟩
          | 6, hu, hv => cases hu; cases hv; exact eqv_flats ((z10.trans (z11.trans (z12.trans (z13.trans (z14.trans (z15.trans (z16.trans (z17.trans (z18.trans (z19.trans (z20.trans z21))))))))))) _ _ hm9) ((z1.trans (z2.trans (z3.trans (z4.trans (z5.trans (z6.trans (z7.trans (z8.trans (z9.trans (z10.trans (z11.trans (z12.trans (z13.trans (z14.trans (z15.trans (z16.trans (z17.trans (z18.trans (z19.trans (z20.trans z21)))))))))))))))))))) _ _ hD10) (fun v m => by obtain ⟨n, _, e⟩ := List.mem_map.mp m; subst e; rfl) (by rw [List.length_map]; omega)
          | 7, hu, hv => cases hu; cases hv; exact eqv_flats ((z12.trans (z13.trans (z14.trans (z15.trans (z16.trans (z17.trans (z18.trans (z19.trans (z20.trans z21))))))))) _ _ hm11) ((z1.trans (z2.trans (z3.trans (z4.trans (z5.trans (z6.trans (z7.trans (z8.trans (z9.trans (z10.trans (z11.trans (z12.trans (z13.trans (z14.trans (z15.trans (z16.trans (z17.trans (z18.trans (z19.trans (z20.trans z21)))))))))))))))))))) _ _ hD10) (fun v m => by obtain ⟨n, _, e⟩ := List.mem_map.mp m; subst e; rfl) (by rw [List.length_map]; omega)
          | 8, hu, hv => cases hu; cases hv; exact .inl ⟨rfl, rfl⟩
          | 9, hu, hv => cases hu; cases hv; exact .inl ⟨rfl, rfl⟩
          | 10, hu, hv => cases hu; cases hv; exact eqv_flatt ((z17.trans (z18.trans (z19.trans (z20.trans z21)))) _ _ h_t2) (z21 _ _ h_t4) (fun v m => by simp at m; rcases m with e | e <;> subst e <;> rfl) (by show 2 ≤ 1000; decide)
          | m + 11, hu, hv => simp at hu
        -- the refusals themselves
        refine ⟨_, rfl, _, rfl, ⟨one, rfl, l1⟩, fun e22 v22 G22 ne22 z22 x22 g22 => ?_⟩
        clear g22
        refine ⟨_, rfl, _, rfl, ⟨one, rfl, l1⟩, fun e23 v23 G23 ne23 z23 x23 g23 => ?_⟩
        clear g23
        refine ⟨_, rfl, ?_⟩
        refine ⟨_, rfl, _, rfl, ⟨one, rfl, l1⟩, fun e24 v24 G24 ne24 z24 x24 g24 => ?_⟩
        clear g24
        refine ⟨_, rfl, _, rfl, ⟨one, rfl, l1⟩, fun e25 v25 G25 ne25 z25 x25 g25 => ?_⟩
        clear g25
        refine ⟨_, rfl, _, rfl, ⟨one, rfl, l1⟩, fun e26 v26 G26 ne26 z26 x26 g26 => ?_⟩
        clear g26
        refine ⟨_, rfl, _, rfl, ⟨D, ls, rfl, ((z1.trans (z2.trans (z3.trans (z4.trans (z5.trans (z6.trans (z7.trans (z8.trans (z9.trans (z10.trans (z11.trans (z12.trans (z13.trans (z14.trans (z15.trans (z16.trans (z17.trans (z18.trans (z19.trans (z20.trans (z21.trans (z60.trans (z22.trans (z23.trans (z24.trans (z25.trans z26)))))))))))))))))))))))))) _ _ hD10), by omega, fun n m => by have := hld n m; omega⟩, fun e27 v27 G27 ne27 z27 x27 g27 => ?_⟩
        obtain ⟨l27, m27, xs27, eq1, rfl, hl27, hm27, hne27, hnw27⟩ := g27
        cases eq1
        have hq27 := ((z1.trans (z2.trans (z3.trans (z4.trans (z5.trans (z6.trans (z7.trans (z8.trans (z9.trans (z10.trans (z11.trans (z12.trans (z13.trans (z14.trans (z15.trans (z16.trans (z17.trans (z18.trans (z19.trans (z20.trans (z21.trans (z60.trans (z22.trans (z23.trans (z24.trans (z25.trans (z26.trans z27))))))))))))))))))))))))))) _ _ hD10)
        rw [hl27] at hq27
        cases hq27
        refine ⟨_, rfl, _, rfl, ⟨D, ls, rfl, ((z1.trans (z2.trans (z3.trans (z4.trans (z5.trans (z6.trans (z7.trans (z8.trans (z9.trans (z10.trans (z11.trans (z12.trans (z13.trans (z14.trans (z15.trans (z16.trans (z17.trans (z18.trans (z19.trans (z20.trans (z21.trans (z60.trans (z22.trans (z23.trans (z24.trans (z25.trans (z26.trans z27))))))))))))))))))))))))))) _ _ hD10), by omega, fun n m => by have := hld n m; omega⟩, fun e28 v28 G28 ne28 z28 x28 g28 => ?_⟩
        obtain ⟨l28, m28, xs28, eq1, rfl, hl28, hm28, hne28, hnw28⟩ := g28
        cases eq1
        have hq28 := ((z1.trans (z2.trans (z3.trans (z4.trans (z5.trans (z6.trans (z7.trans (z8.trans (z9.trans (z10.trans (z11.trans (z12.trans (z13.trans (z14.trans (z15.trans (z16.trans (z17.trans (z18.trans (z19.trans (z20.trans (z21.trans (z60.trans (z22.trans (z23.trans (z24.trans (z25.trans (z26.trans (z27.trans z28)))))))))))))))))))))))))))) _ _ hD10)
        rw [hl28] at hq28
        cases hq28
        refine ⟨(by show 8 ≤ sizeLine; decide), fun s1 ns1 => ?_⟩
        generalize hE29 : upd G28 s1 (.lst [.ref e22, .ref e23, .ref tie, .ref e24, .ref e25, .ref e26, .ref e27, .ref e28]) = G29
        obtain ⟨z29, h_s1⟩ := new_at ns1 hE29
        clear hE29
        refine ⟨_, rfl, ?_⟩
        refine ⟨_, rfl, _, rfl, ⟨y, rfl, hyl⟩, fun e30 v30 G30 ne30 z30 x30 g30 => ?_⟩
        clear g30
        refine ⟨_, rfl, _, rfl, ⟨oth, rfl, l2⟩, fun e31 v31 G31 ne31 z31 x31 g31 => ?_⟩
        clear g31
        refine ⟨_, rfl, (by show 3 ≤ sizeLine; decide), fun s2 ns2 => ?_⟩
        generalize hE32 : upd G31 s2 (.lst [.ref e30, .ref e31, .ref stp]) = G32
        obtain ⟨z32, h_s2⟩ := new_at ns2 hE32
        clear hE32
        refine ⟨s1, s2, _, _, rfl, rfl, ((z30.trans (z31.trans z32)) _ _ h_s1), h_s2, (by show 11 ≤ sizeLine; decide), fun so nso => ?_⟩
        have nDso : D ≠ so := ne_of_none ((z1.trans (z2.trans (z3.trans (z4.trans (z5.trans (z6.trans (z7.trans (z8.trans (z9.trans (z10.trans (z11.trans (z12.trans (z13.trans (z14.trans (z15.trans (z16.trans (z17.trans (z18.trans (z19.trans (z20.trans (z21.trans (z60.trans (z22.trans (z23.trans (z24.trans (z25.trans (z26.trans (z27.trans (z28.trans (z29.trans (z30.trans (z31.trans z32)))))))))))))))))))))))))))))))) _ _ hD10) nso
        generalize hE33 : upd G32 so (.lst ([.ref e22, .ref e23, .ref tie, .ref e24, .ref e25, .ref e26, .ref e27, .ref e28] ++ [.ref e30, .ref e31, .ref stp])) = G33
        obtain ⟨z33, h_so⟩ := new_at nso hE33
        clear hE33
        refine ⟨⟨_, rfl⟩, _, _, rfl, rfl, (by decide +kernel), (by decide +kernel), fun wo nwo => ?_⟩
        rw [words_split]
        have nDwo : D ≠ wo := ne_of_none ((z1.trans (z2.trans (z3.trans (z4.trans (z5.trans (z6.trans (z7.trans (z8.trans (z9.trans (z10.trans (z11.trans (z12.trans (z13.trans (z14.trans (z15.trans (z16.trans (z17.trans (z18.trans (z19.trans (z20.trans (z21.trans (z60.trans (z22.trans (z23.trans (z24.trans (z25.trans (z26.trans (z27.trans (z28.trans (z29.trans (z30.trans (z31.trans (z32.trans z33))))))))))))))))))))))))))))))))) _ _ hD10) nwo
        generalize hE34 : upd G33 wo (.lst (wordsL.map V.str)) = G34
        obtain ⟨z34, h_wo⟩ := new_at nwo hE34
        clear hE34
        -- the list that was handed in is changed
        refine ⟨_, rfl, .inl ⟨rfl, _, SqL.of ((z1.trans (z2.trans (z3.trans (z4.trans (z5.trans (z6.trans (z7.trans (z8.trans (z9.trans (z10.trans (z11.trans (z12.trans (z13.trans (z14.trans (z15.trans (z16.trans (z17.trans (z18.trans (z19.trans (z20.trans (z21.trans (z60.trans (z22.trans (z23.trans (z24.trans (z25.trans (z26.trans (z27.trans (z28.trans (z29.trans (z30.trans (z31.trans (z32.trans (z33.trans z34)))))))))))))))))))))))))))))))))) _ _ hD10)⟩, D, _, _, rfl, rfl, ((z1.trans (z2.trans (z3.trans (z4.trans (z5.trans (z6.trans (z7.trans (z8.trans (z9.trans (z10.trans (z11.trans (z12.trans (z13.trans (z14.trans (z15.trans (z16.trans (z17.trans (z18.trans (z19.trans (z20.trans (z21.trans (z60.trans (z22.trans (z23.trans (z24.trans (z25.trans (z26.trans (z27.trans (z28.trans (z29.trans (z30.trans (z31.trans (z32.trans (z33.trans z34)))))))))))))))))))))))))))))))))) _ _ hD10), by rw [List.length_map]; exact small1000 (by omega), ?_⟩
        have hDx := ((z1.trans (z2.trans (z3.trans (z4.trans (z5.trans (z6.trans (z7.trans (z8.trans (z9.trans (z10.trans (z11.trans (z12.trans (z13.trans (z14.trans (z15.trans (z16.trans (z17.trans (z18.trans (z19.trans (z20.trans (z21.trans (z60.trans (z22.trans (z23.trans (z24.trans (z25.trans (z26.trans (z27.trans (z28.trans (z29.trans (z30.trans (z31.trans (z32.trans (z33.trans z34)))))))))))))))))))))))))))))))))) _ _ hD10)
        have eA : ls.map V.int ++ [V.int 9] = (ls ++ [9]).map V.int := by rw [List.map_append]; rfl
        rw [eA]
        have bA : ∀ b o, G34 b = some o → b ≠ D → (upd G34 D (.lst ((ls ++ [9]).map V.int))) b = some o := fun b o e hb => by rw [upd_ne hb]; exact e
        have hDA : (upd G34 D (.lst ((ls ++ [9]).map V.int))) D = some (.lst ((ls ++ [9]).map V.int)) := upd_same
        have soA := bA _ _ (z34 _ _ h_so) (Ne.symm nDso)
        have woA := bA _ _ h_wo (Ne.symm nDwo)
        have hmA27 := bA _ _ ((z28.trans (z29.trans (z30.trans (z31.trans (z32.trans (z33.trans z34)))))) _ _ hm27) (Ne.symm hne27)
        have hmA28 := bA _ _ ((z29.trans (z30.trans (z31.trans (z32.trans (z33.trans z34))))) _ _ hm28) (Ne.symm hne28)
        have xATooMany := ExAt.put (ys := (ls ++ [9]).map V.int) (x22.same (z23.trans (z24.trans (z25.trans (z26.trans (z27.trans (z28.trans (z29.trans (z30.trans (z31.trans (z32.trans (z33.trans z34)))))))))))) hDx
        have xANoHouse := ExAt.put (ys := (ls ++ [9]).map V.int) (x23.same (z24.trans (z25.trans (z26.trans (z27.trans (z28.trans (z29.trans (z30.trans (z31.trans (z32.trans (z33.trans z34))))))))))) hDx
        have xANoTie := ExAt.put (ys := (ls ++ [9]).map V.int) (xtie10.same (z1.trans (z2.trans (z3.trans (z4.trans (z5.trans (z6.trans (z7.trans (z8.trans (z9.trans (z10.trans (z11.trans (z12.trans (z13.trans (z14.trans (z15.trans (z16.trans (z17.trans (z18.trans (z19.trans (z20.trans (z21.trans (z60.trans (z22.trans (z23.trans (z24.trans (z25.trans (z26.trans (z27.trans (z28.trans (z29.trans (z30.trans (z31.trans (z32.trans (z33.trans z34))))))))))))))))))))))))))))))))))) hDx
        have xANotTaken := ExAt.put (ys := (ls ++ [9]).map V.int) (x24.same (z25.trans (z26.trans (z27.trans (z28.trans (z29.trans (z30.trans (z31.trans (z32.trans (z33.trans z34)))))))))) hDx
        have xANoTunnel := ExAt.put (ys := (ls ++ [9]).map V.int) (x25.same (z26.trans (z27.trans (z28.trans (z29.trans (z30.trans (z31.trans (z32.trans (z33.trans z34))))))))) hDx
        have xAShort := ExAt.put (ys := (ls ++ [9]).map V.int) (x26.same (z27.trans (z28.trans (z29.trans (z30.trans (z31.trans (z32.trans (z33.trans z34)))))))) hDx
        have xANoWay := ExAt.put (ys := (ls ++ [9]).map V.int) (x27.same (z28.trans (z29.trans (z30.trans (z31.trans (z32.trans (z33.trans z34))))))) hDx
        have xALone := ExAt.put (ys := (ls ++ [9]).map V.int) (x28.same (z29.trans (z30.trans (z31.trans (z32.trans (z33.trans z34)))))) hDx
        have xABadDeed := ExAt.put (ys := (ls ++ [9]).map V.int) (x30.same (z31.trans (z32.trans (z33.trans z34)))) hDx
        have xABadPage := ExAt.put (ys := (ls ++ [9]).map V.int) (x31.same (z32.trans (z33.trans z34))) hDx
        have xAStopped := ExAt.put (ys := (ls ++ [9]).map V.int) (xstp.same (z1.trans (z2.trans (z3.trans (z4.trans (z5.trans (z6.trans (z7.trans (z8.trans (z9.trans (z10.trans (z11.trans (z12.trans (z13.trans (z14.trans (z15.trans (z16.trans (z17.trans (z18.trans (z19.trans (z20.trans (z21.trans (z60.trans (z22.trans (z23.trans (z24.trans (z25.trans (z26.trans (z27.trans (z28.trans (z29.trans (z30.trans (z31.trans (z32.trans (z33.trans z34))))))))))))))))))))))))))))))))))) hDx
        have BA : BoxAt (upd G34 D (.lst ((ls ++ [9]).map V.int))) p q := (B10.same (z1.trans (z2.trans (z3.trans (z4.trans (z5.trans (z6.trans (z7.trans (z8.trans (z9.trans (z10.trans (z11.trans (z12.trans (z13.trans (z14.trans (z15.trans (z16.trans (z17.trans (z18.trans (z19.trans (z20.trans (z21.trans (z60.trans (z22.trans (z23.trans (z24.trans (z25.trans (z26.trans (z27.trans (z28.trans (z29.trans (z30.trans (z31.trans (z32.trans (z33.trans z34))))))))))))))))))))))))))))))))))).put hDp hDq
        revert bA hDA soA woA hmA27 hmA28 xATooMany xANoHouse xANoTie xANotTaken xANoTunnel xAShort xANoWay xALone xABadDeed xABadPage xAStopped BA
        generalize upd G34 D (.lst ((ls ++ [9]).map V.int)) = GA
        intro bA hDA soA woA hmA27 hmA28 xATooMany xANoHouse xANoTie xANotTaken xANoTunnel xAShort xANoWay xALone xABadDeed xABadPage xAStopped BA
        clear bA
        refine ⟨_, rfl, so, _, 6, _, rfl, rfl, SqL.of soA, rfl, e27, CNoWay, _, _, rfl, gNoWay.xf, flNoWay, xANoWay, rfl, _, rfl, so, _, 7, _, rfl, rfl, SqL.of soA, rfl, e28, CLone, _, _, rfl, gLone.xf, flLone, xALone, rfl, (by show 2 ≤ sizeLine; decide), fun q1 nq1 => ?_⟩
        generalize hE35 : upd GA q1 (.lst [.ref m27, .ref m28]) = G35
        obtain ⟨z35, h_q1⟩ := new_at nq1 hE35
        clear hE35
        refine ⟨_, rfl, 1, rfl, _, rfl, D, _, rfl, SqL.of (z35 _ _ hDA), fun q2 nq2 => ?_⟩
        rw [cut_last]
        generalize hE36 : upd G35 q2 (.lst (ls.map V.int)) = G36
        obtain ⟨z36, h_q2⟩ := new_at nq2 hE36
        clear hE36
        refine ⟨_, rfl, 1, rfl, _, rfl, D, _, rfl, SqL.of ((z35.trans z36) _ _ hDA), fun q3 nq3 => ?_⟩
        rw [cut_last]
        generalize hE37 : upd G36 q3 (.lst (ls.map V.int)) = G37
        obtain ⟨z37, h_q3⟩ := new_at nq3 hE37
        clear hE37
        refine ⟨(by show 2 ≤ sizeLine; decide), fun q4 nq4 => ?_⟩
        generalize hE38 : upd G37 q4 (.lst [.ref q2, .ref q3]) = G38
        obtain ⟨z38, h_q4⟩ := new_at nq4 hE38
        clear hE38
        refine ⟨_, _, rfl, .inr ⟨q1, q4, _, _, rfl, rfl, .inl ⟨((z36.trans (z37.trans z38)) _ _ h_q1), h_q4⟩, rfl, (by show 2 ≤ 1000; decide), fun m u v hu hv => ?_⟩, fun G61 z61 => ⟨_, rfl, iteF ?_⟩⟩
        · match m, hu, hv with
          | 0, hu, hv => cases hu; cases hv; exact eqv_flats ((z35.trans (z36.trans (z37.trans z38))) _ _ hmA27) ((z37.trans z38) _ _ h_q2) (fun v m => by obtain ⟨n, _, e⟩ := List.mem_map.mp m; subst e; rfl) (by rw [List.length_map]; omega)
          | 1, hu, hv => cases hu; cases hv; exact eqv_flats ((z35.trans (z36.trans (z37.trans z38))) _ _ hmA28) (z38 _ _ h_q3) (fun v m => by obtain ⟨n, _, e⟩ := List.mem_map.mp m; subst e; rfl) (by rw [List.length_map]; omega)
          | m + 2, hu, hv => simp at hu
        have items : ∀ (j : Nat) (x : V), ([.ref e22, .ref e23, .ref tie, .ref e24, .ref e25, .ref e26, .ref e27, .ref e28] ++ [.ref e30, .ref e31, .ref stp])[j]? = some x → ∃ (e C : Addr) (fs : List (Str × V)) (wd : Str), x = .ref e ∧ ExcG K CS C ∧ ExAt G61 e C fs ∧ fs.lookup ("word" : Str) = some (V.str wd) ∧ wordsL[j]? = some wd := fun j x hj => by
          match j, hj with
          | 0, hj => cases hj; exact ⟨e22, CTooMany, _, _, rfl, gTooMany, (xATooMany.same (z35.trans (z36.trans (z37.trans (z38.trans z61))))), rfl, rfl⟩
          | 1, hj => cases hj; exact ⟨e23, CNoHouse, _, _, rfl, gNoHouse, (xANoHouse.same (z35.trans (z36.trans (z37.trans (z38.trans z61))))), rfl, rfl⟩
          | 2, hj => cases hj; exact ⟨tie, CNoTie, _, _, rfl, gNoTie, (xANoTie.same (z35.trans (z36.trans (z37.trans (z38.trans z61))))), rfl, rfl⟩
          | 3, hj => cases hj; exact ⟨e24, CNotTaken, _, _, rfl, gNotTaken, (xANotTaken.same (z35.trans (z36.trans (z37.trans (z38.trans z61))))), rfl, rfl⟩
          | 4, hj => cases hj; exact ⟨e25, CNoTunnel, _, _, rfl, gNoTunnel, (xANoTunnel.same (z35.trans (z36.trans (z37.trans (z38.trans z61))))), rfl, rfl⟩
          | 5, hj => cases hj; exact ⟨e26, CShort, _, _, rfl, gShort, (xAShort.same (z35.trans (z36.trans (z37.trans (z38.trans z61))))), rfl, rfl⟩
          | 6, hj => cases hj; exact ⟨e27, CNoWay, _, _, rfl, gNoWay, (xANoWay.same (z35.trans (z36.trans (z37.trans (z38.trans z61))))), rfl, rfl⟩
          | 7, hj => cases hj; exact ⟨e28, CLone, _, _, rfl, gLone, (xALone.same (z35.trans (z36.trans (z37.trans (z38.trans z61))))), rfl, rfl⟩
          | 8, hj => cases hj; exact ⟨e30, CBadDeed, _, _, rfl, gBadDeed, (xABadDeed.same (z35.trans (z36.trans (z37.trans (z38.trans z61))))), rfl, rfl⟩
          | 9, hj => cases hj; exact ⟨e31, CBadPage, _, _, rfl, gBadPage, (xABadPage.same (z35.trans (z36.trans (z37.trans (z38.trans z61))))), rfl, rfl⟩
          | 10, hj => cases hj; exact ⟨stp, CStopped, _, _, rfl, gStopped, (xAStopped.same (z35.trans (z36.trans (z37.trans (z38.trans z61))))), rfl, rfl⟩
          | j + 11, hj => simp at hj
        refine ⟨_, rfl, so, rfl, ⟨_, SqL.of ((z35.trans (z36.trans (z37.trans (z38.trans z61)))) _ _ soA)⟩, fun D2 nD2 => ?_⟩
        refine lc_list (K := K) (a := so) (xs := [.ref e22, .ref e23, .ref tie, .ref e24, .ref e25, .ref e26, .ref e27, .ref e28] ++ [.ref e30, .ref e31, .ref stp]) (fun i H' => Same G61 H' ∧ H' D2 = some (.lst ((wordsL.take i).map V.str))) ⟨same_upd nD2, upd_same⟩ (fun i H' _ ⟨sx, _⟩ => SqL.of (sx _ _ ((z35.trans (z36.trans (z37.trans (z38.trans z61)))) _ _ soA))) ?_ ?_
        · rintro j x H62 hj ⟨s62, hD62⟩
          obtain ⟨e, Ce, fs, wd, rfl, Gx, xe, hlk, hwd⟩ := items j x hj
          refine ⟨rfl, ?_⟩
          have hlt : (wordsL.take j).length ≤ 11 := by rw [List.length_take]; exact Nat.le_trans (Nat.min_le_right _ _) (by decide)
          refine ⟨_, rfl, e, Ce, fs, _, rfl, Gx.xf, Gx.word, xe.same s62, hlk, _, hD62, by rw [List.length_map]; exact small1000 (by omega), fun b o z => ?_, ?_⟩
          · rw [upd_ne (ne_of_none z nD2)]
            exact s62 _ _ z
          · rw [upd_same, take_succ_of hwd, List.map_append]
            rfl
        · rintro H62 ⟨z62, hD62⟩
          have hD62 : H62 D2 = some (.lst (wordsL.map V.str)) := hD62
          refine ⟨_, rfl, _, _, rfl, eqv_flats hD62 ((z35.trans (z36.trans (z37.trans (z38.trans (z61.trans z62))))) _ _ woA) (fun v m => by obtain ⟨n, _, e⟩ := List.mem_map.mp m; subst e; rfl) (by rw [List.length_map]; decide), fun G63 z63 => ⟨_, rfl, iteF ?_⟩⟩
          refine ⟨_, rfl, so, rfl, ⟨_, SqL.of ((z35.trans (z36.trans (z37.trans (z38.trans (z61.trans (z62.trans z63)))))) _ _ soA)⟩, fun D3 nD3 => ?_⟩
          refine lc_list (K := K) (a := so) (xs := [.ref e22, .ref e23, .ref tie, .ref e24, .ref e25, .ref e26, .ref e27, .ref e28] ++ [.ref e30, .ref e31, .ref stp]) (fun i H' => Same G63 H' ∧ H' D3 = some (.lst ((List.replicate i true).map V.bl))) ⟨same_upd nD3, upd_same⟩ (fun i H' _ ⟨sx, _⟩ => SqL.of (sx _ _ ((z35.trans (z36.trans (z37.trans (z38.trans (z61.trans (z62.trans z63)))))) _ _ soA))) ?_ ?_
          · rintro j x H64 hj ⟨s64, hD64⟩
            have hj11 : j < 11 := (List.getElem?_eq_some_iff.mp hj).1
            obtain ⟨e, Ce, fs, wd, rfl, Gx, xe, hlk, hwd⟩ := items j x hj
            have xe4 := xe.same (z62.trans (z63.trans s64))
            refine ⟨rfl, ?_⟩
            refine ⟨_, rfl, e, Ce, fs, _, .ref CS, true, rfl, Gx.xf, Gx.is, xe4, fun u r => r, Gx.k1, true, rfl, iteT ?_⟩
            refine ⟨_, rfl, e, Ce, fs, _, .type "ValueError", true, rfl, Gx.xf, Gx.is, xe4, fun u r => r, Gx.k2, ?_⟩
            refine ⟨_, hD64, by rw [List.length_map, List.length_replicate]; exact small1000 (by omega), fun b o z => ?_, ?_⟩
            · rw [upd_ne (ne_of_none z nD3)]
              exact s64 _ _ z
            · rw [upd_same, List.replicate_succ', List.map_append]
              rfl
          · rintro H64 ⟨s64, hD64⟩
            refine ⟨D3, List.replicate 11 true, rfl, SqL.of hD64, true, rfl, iteF ?_⟩
            exact ⟨_, _, _, _, _, _, _, _, _, _, _, _, _, rfl, (BA.same (z35.trans (z36.trans (z37.trans (z38.trans (z61.trans (z62.trans (z63.trans s64))))))))⟩
    · rintro σ H2 ⟨y2, y3, y4, y5, y6, y7, y8, y9, y10, y11, y12, y13, y14, rfl, B2⟩
      exact kk H2
end
end K

namespace K
open PySem PySem.Spec PyProof.Rows L2
theorem all_mk {l : PySem.W.OpenLaw} {w : World} {K : PySem.W.Frag} {h : Heap} {mg : Str → Option Value} {fa f0 f1 f2 f3 f4 CS fS TD CTooMany fTooMany NTooMany CNoHouse fNoHouse NNoHouse CNotTaken fNotTaken NNotTaken CNoTunnel fNoTunnel NNoTunnel CShort fShort NShort CNoWay fNoWay NNoWay CLone fLone NLone CBadDeed fBadDeed NBadDeed CBadPage fBadPage NBadPage CNoTie fNoTie NNoTie CStopped fStopped NStopped : Addr} (X : K.In h) (G : h.Ns mainGlobals mg) (hfa : mg "law" = some (.ref fa))
    {od0 an0 od1 an1 od2 an2 od3 an3 od4 an4 odS anS odT odTooMany anTooMany ddTooMany odNoHouse anNoHouse ddNoHouse odNotTaken anNotTaken ddNotTaken odNoTunnel anNoTunnel ddNoTunnel odShort anShort ddShort odNoWay anNoWay ddNoWay odLone anLone ddLone odBadDeed anBadDeed ddBadDeed odBadPage anBadPage ddBadPage odNoTie anNoTie ddNoTie odStopped anStopped ddStopped : Option Addr} {sl0 sl1 sl2 sl3 sl4 slS slT slTooMany slNoHouse slNotTaken slNoTunnel slShort slNoWay slLone slBadDeed slBadPage slNoTie slStopped : Array (Option Value)} {oc0 kV0 dc0 pm0 cd0 ct0 oc1 kV1 dc1 pm1 cd1 ct1 oc2 kV2 dc2 pm2 cd2 ct2 oc3 kV3 dc3 pm3 cd3 ct3 oc4 kV4 dc4 pm4 cd4 ct4 ocS kVS dcS pmS cdS ctS ocT ocTooMany kVTooMany dcTooMany pmTooMany cdTooMany ctTooMany ocNoHouse kVNoHouse dcNoHouse pmNoHouse cdNoHouse ctNoHouse ocNotTaken kVNotTaken dcNotTaken pmNotTaken cdNotTaken ctNotTaken ocNoTunnel kVNoTunnel dcNoTunnel pmNoTunnel cdNoTunnel ctNoTunnel ocShort kVShort dcShort pmShort cdShort ctShort ocNoWay kVNoWay dcNoWay pmNoWay cdNoWay ctNoWay ocLone kVLone dcLone pmLone cdLone ctLone ocBadDeed kVBadDeed dcBadDeed pmBadDeed cdBadDeed ctBadDeed ocBadPage kVBadPage dcBadPage pmBadPage cdBadPage ctBadPage ocNoTie kVNoTie dcNoTie pmNoTie cdNoTie ctNoTie ocStopped kVStopped dcStopped pmStopped cdStopped ctStopped : Value} {tk1 tk2 : Tok} {nT : Nat}
    {nmTooMany qnTooMany nmNoHouse qnNoHouse nmNotTaken qnNotTaken nmNoTunnel qnNoTunnel nmShort qnShort nmNoWay qnNoWay nmLone qnLone nmBadDeed qnBadDeed nmBadPage qnBadPage nmNoTie qnNoTie nmStopped qnStopped : Str} {bsTooMany bmTooMany subTooMany bsNoHouse bmNoHouse subNoHouse bsNotTaken bmNotTaken subNotTaken bsNoTunnel bmNoTunnel subNoTunnel bsShort bmShort subShort bsNoWay bmNoWay subNoWay bsLone bmLone subLone bsBadDeed bmBadDeed subBadDeed bsBadPage bmBadPage subBadPage bsNoTie bmNoTie subNoTie bsStopped bmStopped subStopped : List Value} {snTooMany snNoHouse snNotTaken snNoTunnel snShort snNoWay snLone snBadDeed snBadPage snNoTie snStopped : List Str} {abTooMany abNoHouse abNotTaken abNoTunnel abShort abNoWay abLone abBadDeed abBadPage abNoTie abStopped : Bool} {colTooMany colNoHouse colNotTaken colNoTunnel colShort colNoWay colLone colBadDeed colBadPage colNoTie colStopped : Option Bool} {p0TooMany p1TooMany p2TooMany p3TooMany p5TooMany p0NoHouse p1NoHouse p2NoHouse p3NoHouse p5NoHouse p0NotTaken p1NotTaken p2NotTaken p3NotTaken p5NotTaken p0NoTunnel p1NoTunnel p2NoTunnel p3NoTunnel p5NoTunnel p0Short p1Short p2Short p3Short p5Short p0NoWay p1NoWay p2NoWay p3NoWay p5NoWay p0Lone p1Lone p2Lone p3Lone p5Lone p0BadDeed p1BadDeed p2BadDeed p3BadDeed p5BadDeed p0BadPage p1BadPage p2BadPage p3BadPage p5BadPage p0NoTie p1NoTie p2NoTie p3NoTie p5NoTie p0Stopped p1Stopped p2Stopped p3Stopped p5Stopped : Option Value}
    (a0 : PySem.W.nsIn K mainGlobals "_law_box" = some (some (.ref f0)))
    (l0 : K.lookup f0 = some ⟨oc0, od0, .func (PySem.W.fnOf "_law_box" "_law_box" (defArgs sBox) (defBody sBox) (defScope sBox) .none kV0 dc0 pm0 an0 cd0 ct0), sl0⟩)
    (c0 : PySem.W.codeIn K cd0 "_law_box" = true)
    (k0 : PySem.W.keepIn K (.ref f0) = true)
    (a1 : PySem.W.nsIn K mainGlobals "_law_take" = some (some (.ref f1)))
    (l1 : K.lookup f1 = some ⟨oc1, od1, .func (PySem.W.fnOf "_law_take" "_law_take" (defArgs sTake) (defBody sTake) (defScope sTake) .none kV1 dc1 pm1 an1 cd1 ct1), sl1⟩)
    (c1 : PySem.W.codeIn K cd1 "_law_take" = true)
    (k1 : PySem.W.keepIn K (.ref f1) = true)
    (a2 : PySem.W.nsIn K mainGlobals "_law_same" = some (some (.ref f2)))
    (l2 : K.lookup f2 = some ⟨oc2, od2, .func (PySem.W.fnOf "_law_same" "_law_same" (defArgs sSame) (defBody sSame) (defScope sSame) .none kV2 dc2 pm2 an2 cd2 ct2), sl2⟩)
    (c2 : PySem.W.codeIn K cd2 "_law_same" = true)
    (k2 : PySem.W.keepIn K (.ref f2) = true)
    (a3 : PySem.W.nsIn K mainGlobals "_law_wild" = some (some (.ref f3)))
    (l3 : K.lookup f3 = some ⟨oc3, od3, .func (PySem.W.fnOf "_law_wild" "_law_wild" (defArgs sWild) (defBody sWild) (defScope sWild) .none kV3 dc3 pm3 an3 cd3 ct3), sl3⟩)
    (c3 : PySem.W.codeIn K cd3 "_law_wild" = true)
    (k3 : PySem.W.keepIn K (.ref f3) = true)
    (a4 : PySem.W.nsIn K mainGlobals "law" = some (some (.ref f4)))
    (l4 : K.lookup f4 = some ⟨oc4, od4, .func (PySem.W.fnOf "law" "law" (defArgs sLaw) (defBody sLaw) (defScope sLaw) .none kV4 dc4 pm4 an4 cd4 ct4), sl4⟩)
    (c4 : PySem.W.codeIn K cd4 "law" = true)
    (k4 : PySem.W.keepIn K (.ref f4) = true)
    (aS : PySem.W.nsIn K mainGlobals "SlipError" = some (some (.ref CS)))
    (rd : PySem.W.readsIn K CS (.type "type") = true)
    (rga : PySem.W.specialIn K (.ref CS) "__getattribute__" = some (some (.builtin "type.__getattribute__")))
    (atS : PySem.W.findCls K (.ref CS) (.type "type") "__init__" = some (.val (.ref fS)))
    (lS : K.lookup fS = some ⟨ocS, odS, .func (PySem.W.fnOf "__init__" "SlipError.__init__" (defArgs sSlipI) (defBody sSlipI) (defScope sSlipI) (.ref TD) kVS dcS pmS anS cdS ctS), slS⟩)
    (lT : K.lookup TD = some ⟨ocT, odT, .seq #[.str "sliperror" tk1, .str "refused" tk2] nT, slT⟩)
    (cS : PySem.W.codeIn K cdS "SlipError.__init__" = true)
    (kS : PySem.W.keepIn K (.ref fS) = true)
    (vV : PySem.W.findCls K (.type "ValueError") (.type "type") "__init__" = some (.val (.builtin "ValueError.__init__")))
    (zV : PySem.W.nsIn K mainGlobals "ValueError" = some none)
    (aTooMany : PySem.W.nsIn K mainGlobals "TooMany" = some (some (.ref CTooMany)))
    (xTooMany : K.lookup CTooMany = some (excClassObj nmTooMany qnTooMany CTooMany NTooMany bsTooMany bmTooMany true snTooMany subTooMany abTooMany colTooMany ddTooMany p0TooMany p1TooMany p2TooMany p3TooMany p5TooMany "ValueError.__new__"))
    (rTooMany : PySem.HandSPX.refsVE bmTooMany = true)
    (saTooMany : PySem.W.findIn K (.ref CTooMany) "__setattr__" = some (some (.builtin "object.__setattr__")))
    (exTooMany : PySem.W.subIn K (.ref CTooMany) (.type "BaseException") = some true)
    (tyTooMany : PySem.W.typeIn K (.ref CTooMany) = some (.type "type"))
    (kcTooMany : PySem.W.keepIn K (.ref CTooMany) = true)
    (gaTooMany : PySem.W.findIn K (.ref CTooMany) "__getattribute__" = some (some (.builtin "BaseException.__getattribute__")))
    (ggTooMany : PySem.W.findIn K (.ref CTooMany) "__getattr__" = some none)
    (hdTooMany : PySem.W.hasDictIn K CTooMany = true)
    (iTooMany : PySem.W.findIn K (.ref CTooMany) "__init__" = some (some (.ref fTooMany)))
    (tiTooMany : PySem.W.typeIn K (.ref fTooMany) = some (.type "function"))
    (lTooMany : K.lookup fTooMany = some ⟨ocTooMany, odTooMany, .func (PySem.W.fnOf "__init__" "TooMany.__init__" (defArgs sTooManyI) (defBody sTooManyI) (defScope sTooManyI) .none kVTooMany dcTooMany pmTooMany anTooMany cdTooMany ctTooMany), slTooMany⟩)
    (cTooMany : PySem.W.codeIn K cdTooMany "TooMany.__init__" = true)
    (kfTooMany : PySem.W.keepIn K (.ref fTooMany) = true)
    (wTooMany : PySem.W.findIn K (.ref CTooMany) "word" = some none)
    (flTooManybound : PySem.W.findIn K (.ref CTooMany) "bound" = some none)
    (icTooMany : PySem.W.isClsIn K CTooMany = true)
    (aNoHouse : PySem.W.nsIn K mainGlobals "NoHouse" = some (some (.ref CNoHouse)))
    (xNoHouse : K.lookup CNoHouse = some (excClassObj nmNoHouse qnNoHouse CNoHouse NNoHouse bsNoHouse bmNoHouse true snNoHouse subNoHouse abNoHouse colNoHouse ddNoHouse p0NoHouse p1NoHouse p2NoHouse p3NoHouse p5NoHouse "ValueError.__new__"))
    (rNoHouse : PySem.HandSPX.refsVE bmNoHouse = true)
    (saNoHouse : PySem.W.findIn K (.ref CNoHouse) "__setattr__" = some (some (.builtin "object.__setattr__")))
    (exNoHouse : PySem.W.subIn K (.ref CNoHouse) (.type "BaseException") = some true)
    (tyNoHouse : PySem.W.typeIn K (.ref CNoHouse) = some (.type "type"))
    (kcNoHouse : PySem.W.keepIn K (.ref CNoHouse) = true)
    (gaNoHouse : PySem.W.findIn K (.ref CNoHouse) "__getattribute__" = some (some (.builtin "BaseException.__getattribute__")))
    (ggNoHouse : PySem.W.findIn K (.ref CNoHouse) "__getattr__" = some none)
    (hdNoHouse : PySem.W.hasDictIn K CNoHouse = true)
    (iNoHouse : PySem.W.findIn K (.ref CNoHouse) "__init__" = some (some (.ref fNoHouse)))
    (tiNoHouse : PySem.W.typeIn K (.ref fNoHouse) = some (.type "function"))
    (lNoHouse : K.lookup fNoHouse = some ⟨ocNoHouse, odNoHouse, .func (PySem.W.fnOf "__init__" "NoHouse.__init__" (defArgs sNoHouseI) (defBody sNoHouseI) (defScope sNoHouseI) .none kVNoHouse dcNoHouse pmNoHouse anNoHouse cdNoHouse ctNoHouse), slNoHouse⟩)
    (cNoHouse : PySem.W.codeIn K cdNoHouse "NoHouse.__init__" = true)
    (kfNoHouse : PySem.W.keepIn K (.ref fNoHouse) = true)
    (wNoHouse : PySem.W.findIn K (.ref CNoHouse) "word" = some none)
    (flNoHousehouse : PySem.W.findIn K (.ref CNoHouse) "house" = some none)
    (icNoHouse : PySem.W.isClsIn K CNoHouse = true)
    (aNotTaken : PySem.W.nsIn K mainGlobals "NotTaken" = some (some (.ref CNotTaken)))
    (xNotTaken : K.lookup CNotTaken = some (excClassObj nmNotTaken qnNotTaken CNotTaken NNotTaken bsNotTaken bmNotTaken true snNotTaken subNotTaken abNotTaken colNotTaken ddNotTaken p0NotTaken p1NotTaken p2NotTaken p3NotTaken p5NotTaken "ValueError.__new__"))
    (rNotTaken : PySem.HandSPX.refsVE bmNotTaken = true)
    (saNotTaken : PySem.W.findIn K (.ref CNotTaken) "__setattr__" = some (some (.builtin "object.__setattr__")))
    (exNotTaken : PySem.W.subIn K (.ref CNotTaken) (.type "BaseException") = some true)
    (tyNotTaken : PySem.W.typeIn K (.ref CNotTaken) = some (.type "type"))
    (kcNotTaken : PySem.W.keepIn K (.ref CNotTaken) = true)
    (gaNotTaken : PySem.W.findIn K (.ref CNotTaken) "__getattribute__" = some (some (.builtin "BaseException.__getattribute__")))
    (ggNotTaken : PySem.W.findIn K (.ref CNotTaken) "__getattr__" = some none)
    (hdNotTaken : PySem.W.hasDictIn K CNotTaken = true)
    (iNotTaken : PySem.W.findIn K (.ref CNotTaken) "__init__" = some (some (.ref fNotTaken)))
    (tiNotTaken : PySem.W.typeIn K (.ref fNotTaken) = some (.type "function"))
    (lNotTaken : K.lookup fNotTaken = some ⟨ocNotTaken, odNotTaken, .func (PySem.W.fnOf "__init__" "NotTaken.__init__" (defArgs sNotTakenI) (defBody sNotTakenI) (defScope sNotTakenI) .none kVNotTaken dcNotTaken pmNotTaken anNotTaken cdNotTaken ctNotTaken), slNotTaken⟩)
    (cNotTaken : PySem.W.codeIn K cdNotTaken "NotTaken.__init__" = true)
    (kfNotTaken : PySem.W.keepIn K (.ref fNotTaken) = true)
    (wNotTaken : PySem.W.findIn K (.ref CNotTaken) "word" = some none)
    (flNotTakennumber : PySem.W.findIn K (.ref CNotTaken) "number" = some none)
    (icNotTaken : PySem.W.isClsIn K CNotTaken = true)
    (aNoTunnel : PySem.W.nsIn K mainGlobals "NoTunnel" = some (some (.ref CNoTunnel)))
    (xNoTunnel : K.lookup CNoTunnel = some (excClassObj nmNoTunnel qnNoTunnel CNoTunnel NNoTunnel bsNoTunnel bmNoTunnel true snNoTunnel subNoTunnel abNoTunnel colNoTunnel ddNoTunnel p0NoTunnel p1NoTunnel p2NoTunnel p3NoTunnel p5NoTunnel "ValueError.__new__"))
    (rNoTunnel : PySem.HandSPX.refsVE bmNoTunnel = true)
    (saNoTunnel : PySem.W.findIn K (.ref CNoTunnel) "__setattr__" = some (some (.builtin "object.__setattr__")))
    (exNoTunnel : PySem.W.subIn K (.ref CNoTunnel) (.type "BaseException") = some true)
    (tyNoTunnel : PySem.W.typeIn K (.ref CNoTunnel) = some (.type "type"))
    (kcNoTunnel : PySem.W.keepIn K (.ref CNoTunnel) = true)
    (gaNoTunnel : PySem.W.findIn K (.ref CNoTunnel) "__getattribute__" = some (some (.builtin "BaseException.__getattribute__")))
    (ggNoTunnel : PySem.W.findIn K (.ref CNoTunnel) "__getattr__" = some none)
    (hdNoTunnel : PySem.W.hasDictIn K CNoTunnel = true)
    (iNoTunnel : PySem.W.findIn K (.ref CNoTunnel) "__init__" = some (some (.ref fNoTunnel)))
    (tiNoTunnel : PySem.W.typeIn K (.ref fNoTunnel) = some (.type "function"))
    (lNoTunnel : K.lookup fNoTunnel = some ⟨ocNoTunnel, odNoTunnel, .func (PySem.W.fnOf "__init__" "NoTunnel.__init__" (defArgs sNoTunnelI) (defBody sNoTunnelI) (defScope sNoTunnelI) .none kVNoTunnel dcNoTunnel pmNoTunnel anNoTunnel cdNoTunnel ctNoTunnel), slNoTunnel⟩)
    (cNoTunnel : PySem.W.codeIn K cdNoTunnel "NoTunnel.__init__" = true)
    (kfNoTunnel : PySem.W.keepIn K (.ref fNoTunnel) = true)
    (wNoTunnel : PySem.W.findIn K (.ref CNoTunnel) "word" = some none)
    (flNoTunnelnumber : PySem.W.findIn K (.ref CNoTunnel) "number" = some none)
    (icNoTunnel : PySem.W.isClsIn K CNoTunnel = true)
    (aShort : PySem.W.nsIn K mainGlobals "Short" = some (some (.ref CShort)))
    (xShort : K.lookup CShort = some (excClassObj nmShort qnShort CShort NShort bsShort bmShort true snShort subShort abShort colShort ddShort p0Short p1Short p2Short p3Short p5Short "ValueError.__new__"))
    (rShort : PySem.HandSPX.refsVE bmShort = true)
    (saShort : PySem.W.findIn K (.ref CShort) "__setattr__" = some (some (.builtin "object.__setattr__")))
    (exShort : PySem.W.subIn K (.ref CShort) (.type "BaseException") = some true)
    (tyShort : PySem.W.typeIn K (.ref CShort) = some (.type "type"))
    (kcShort : PySem.W.keepIn K (.ref CShort) = true)
    (gaShort : PySem.W.findIn K (.ref CShort) "__getattribute__" = some (some (.builtin "BaseException.__getattribute__")))
    (ggShort : PySem.W.findIn K (.ref CShort) "__getattr__" = some none)
    (hdShort : PySem.W.hasDictIn K CShort = true)
    (iShort : PySem.W.findIn K (.ref CShort) "__init__" = some (some (.ref fShort)))
    (tiShort : PySem.W.typeIn K (.ref fShort) = some (.type "function"))
    (lShort : K.lookup fShort = some ⟨ocShort, odShort, .func (PySem.W.fnOf "__init__" "Short.__init__" (defArgs sShortI) (defBody sShortI) (defScope sShortI) .none kVShort dcShort pmShort anShort cdShort ctShort), slShort⟩)
    (cShort : PySem.W.codeIn K cdShort "Short.__init__" = true)
    (kfShort : PySem.W.keepIn K (.ref fShort) = true)
    (wShort : PySem.W.findIn K (.ref CShort) "word" = some none)
    (flShorthouse : PySem.W.findIn K (.ref CShort) "house" = some none)
    (icShort : PySem.W.isClsIn K CShort = true)
    (aNoWay : PySem.W.nsIn K mainGlobals "NoWay" = some (some (.ref CNoWay)))
    (xNoWay : K.lookup CNoWay = some (excClassObj nmNoWay qnNoWay CNoWay NNoWay bsNoWay bmNoWay true snNoWay subNoWay abNoWay colNoWay ddNoWay p0NoWay p1NoWay p2NoWay p3NoWay p5NoWay "ValueError.__new__"))
    (rNoWay : PySem.HandSPX.refsVE bmNoWay = true)
    (saNoWay : PySem.W.findIn K (.ref CNoWay) "__setattr__" = some (some (.builtin "object.__setattr__")))
    (exNoWay : PySem.W.subIn K (.ref CNoWay) (.type "BaseException") = some true)
    (tyNoWay : PySem.W.typeIn K (.ref CNoWay) = some (.type "type"))
    (kcNoWay : PySem.W.keepIn K (.ref CNoWay) = true)
    (gaNoWay : PySem.W.findIn K (.ref CNoWay) "__getattribute__" = some (some (.builtin "BaseException.__getattribute__")))
    (ggNoWay : PySem.W.findIn K (.ref CNoWay) "__getattr__" = some none)
    (hdNoWay : PySem.W.hasDictIn K CNoWay = true)
    (iNoWay : PySem.W.findIn K (.ref CNoWay) "__init__" = some (some (.ref fNoWay)))
    (tiNoWay : PySem.W.typeIn K (.ref fNoWay) = some (.type "function"))
    (lNoWay : K.lookup fNoWay = some ⟨ocNoWay, odNoWay, .func (PySem.W.fnOf "__init__" "NoWay.__init__" (defArgs sNoWayI) (defBody sNoWayI) (defScope sNoWayI) .none kVNoWay dcNoWay pmNoWay anNoWay cdNoWay ctNoWay), slNoWay⟩)
    (cNoWay : PySem.W.codeIn K cdNoWay "NoWay.__init__" = true)
    (kfNoWay : PySem.W.keepIn K (.ref fNoWay) = true)
    (wNoWay : PySem.W.findIn K (.ref CNoWay) "word" = some none)
    (flNoWaylot : PySem.W.findIn K (.ref CNoWay) "lot" = some none)
    (icNoWay : PySem.W.isClsIn K CNoWay = true)
    (aLone : PySem.W.nsIn K mainGlobals "Lone" = some (some (.ref CLone)))
    (xLone : K.lookup CLone = some (excClassObj nmLone qnLone CLone NLone bsLone bmLone true snLone subLone abLone colLone ddLone p0Lone p1Lone p2Lone p3Lone p5Lone "ValueError.__new__"))
    (rLone : PySem.HandSPX.refsVE bmLone = true)
    (saLone : PySem.W.findIn K (.ref CLone) "__setattr__" = some (some (.builtin "object.__setattr__")))
    (exLone : PySem.W.subIn K (.ref CLone) (.type "BaseException") = some true)
    (tyLone : PySem.W.typeIn K (.ref CLone) = some (.type "type"))
    (kcLone : PySem.W.keepIn K (.ref CLone) = true)
    (gaLone : PySem.W.findIn K (.ref CLone) "__getattribute__" = some (some (.builtin "BaseException.__getattribute__")))
    (ggLone : PySem.W.findIn K (.ref CLone) "__getattr__" = some none)
    (hdLone : PySem.W.hasDictIn K CLone = true)
    (iLone : PySem.W.findIn K (.ref CLone) "__init__" = some (some (.ref fLone)))
    (tiLone : PySem.W.typeIn K (.ref fLone) = some (.type "function"))
    (lLone : K.lookup fLone = some ⟨ocLone, odLone, .func (PySem.W.fnOf "__init__" "Lone.__init__" (defArgs sLoneI) (defBody sLoneI) (defScope sLoneI) .none kVLone dcLone pmLone anLone cdLone ctLone), slLone⟩)
    (cLone : PySem.W.codeIn K cdLone "Lone.__init__" = true)
    (kfLone : PySem.W.keepIn K (.ref fLone) = true)
    (wLone : PySem.W.findIn K (.ref CLone) "word" = some none)
    (flLonelot : PySem.W.findIn K (.ref CLone) "lot" = some none)
    (icLone : PySem.W.isClsIn K CLone = true)
    (aBadDeed : PySem.W.nsIn K mainGlobals "BadDeed" = some (some (.ref CBadDeed)))
    (xBadDeed : K.lookup CBadDeed = some (excClassObj nmBadDeed qnBadDeed CBadDeed NBadDeed bsBadDeed bmBadDeed true snBadDeed subBadDeed abBadDeed colBadDeed ddBadDeed p0BadDeed p1BadDeed p2BadDeed p3BadDeed p5BadDeed "ValueError.__new__"))
    (rBadDeed : PySem.HandSPX.refsVE bmBadDeed = true)
    (saBadDeed : PySem.W.findIn K (.ref CBadDeed) "__setattr__" = some (some (.builtin "object.__setattr__")))
    (exBadDeed : PySem.W.subIn K (.ref CBadDeed) (.type "BaseException") = some true)
    (tyBadDeed : PySem.W.typeIn K (.ref CBadDeed) = some (.type "type"))
    (kcBadDeed : PySem.W.keepIn K (.ref CBadDeed) = true)
    (gaBadDeed : PySem.W.findIn K (.ref CBadDeed) "__getattribute__" = some (some (.builtin "BaseException.__getattribute__")))
    (ggBadDeed : PySem.W.findIn K (.ref CBadDeed) "__getattr__" = some none)
    (hdBadDeed : PySem.W.hasDictIn K CBadDeed = true)
    (iBadDeed : PySem.W.findIn K (.ref CBadDeed) "__init__" = some (some (.ref fBadDeed)))
    (tiBadDeed : PySem.W.typeIn K (.ref fBadDeed) = some (.type "function"))
    (lBadDeed : K.lookup fBadDeed = some ⟨ocBadDeed, odBadDeed, .func (PySem.W.fnOf "__init__" "BadDeed.__init__" (defArgs sBadDeedI) (defBody sBadDeedI) (defScope sBadDeedI) .none kVBadDeed dcBadDeed pmBadDeed anBadDeed cdBadDeed ctBadDeed), slBadDeed⟩)
    (cBadDeed : PySem.W.codeIn K cdBadDeed "BadDeed.__init__" = true)
    (kfBadDeed : PySem.W.keepIn K (.ref fBadDeed) = true)
    (wBadDeed : PySem.W.findIn K (.ref CBadDeed) "word" = some none)
    (flBadDeedsaid : PySem.W.findIn K (.ref CBadDeed) "said" = some none)
    (icBadDeed : PySem.W.isClsIn K CBadDeed = true)
    (aBadPage : PySem.W.nsIn K mainGlobals "BadPage" = some (some (.ref CBadPage)))
    (xBadPage : K.lookup CBadPage = some (excClassObj nmBadPage qnBadPage CBadPage NBadPage bsBadPage bmBadPage true snBadPage subBadPage abBadPage colBadPage ddBadPage p0BadPage p1BadPage p2BadPage p3BadPage p5BadPage "ValueError.__new__"))
    (rBadPage : PySem.HandSPX.refsVE bmBadPage = true)
    (saBadPage : PySem.W.findIn K (.ref CBadPage) "__setattr__" = some (some (.builtin "object.__setattr__")))
    (exBadPage : PySem.W.subIn K (.ref CBadPage) (.type "BaseException") = some true)
    (tyBadPage : PySem.W.typeIn K (.ref CBadPage) = some (.type "type"))
    (kcBadPage : PySem.W.keepIn K (.ref CBadPage) = true)
    (gaBadPage : PySem.W.findIn K (.ref CBadPage) "__getattribute__" = some (some (.builtin "BaseException.__getattribute__")))
    (ggBadPage : PySem.W.findIn K (.ref CBadPage) "__getattr__" = some none)
    (hdBadPage : PySem.W.hasDictIn K CBadPage = true)
    (iBadPage : PySem.W.findIn K (.ref CBadPage) "__init__" = some (some (.ref fBadPage)))
    (tiBadPage : PySem.W.typeIn K (.ref fBadPage) = some (.type "function"))
    (lBadPage : K.lookup fBadPage = some ⟨ocBadPage, odBadPage, .func (PySem.W.fnOf "__init__" "BadPage.__init__" (defArgs sBadPageI) (defBody sBadPageI) (defScope sBadPageI) .none kVBadPage dcBadPage pmBadPage anBadPage cdBadPage ctBadPage), slBadPage⟩)
    (cBadPage : PySem.W.codeIn K cdBadPage "BadPage.__init__" = true)
    (kfBadPage : PySem.W.keepIn K (.ref fBadPage) = true)
    (wBadPage : PySem.W.findIn K (.ref CBadPage) "word" = some none)
    (flBadPagerow : PySem.W.findIn K (.ref CBadPage) "row" = some none)
    (icBadPage : PySem.W.isClsIn K CBadPage = true)
    (aNoTie : PySem.W.nsIn K mainGlobals "NoTie" = some (some (.ref CNoTie)))
    (xNoTie : K.lookup CNoTie = some (excClassObj nmNoTie qnNoTie CNoTie NNoTie bsNoTie bmNoTie true snNoTie subNoTie abNoTie colNoTie ddNoTie p0NoTie p1NoTie p2NoTie p3NoTie p5NoTie "ValueError.__new__"))
    (rNoTie : PySem.HandSPX.refsVE bmNoTie = true)
    (saNoTie : PySem.W.findIn K (.ref CNoTie) "__setattr__" = some (some (.builtin "object.__setattr__")))
    (exNoTie : PySem.W.subIn K (.ref CNoTie) (.type "BaseException") = some true)
    (tyNoTie : PySem.W.typeIn K (.ref CNoTie) = some (.type "type"))
    (kcNoTie : PySem.W.keepIn K (.ref CNoTie) = true)
    (gaNoTie : PySem.W.findIn K (.ref CNoTie) "__getattribute__" = some (some (.builtin "BaseException.__getattribute__")))
    (ggNoTie : PySem.W.findIn K (.ref CNoTie) "__getattr__" = some none)
    (hdNoTie : PySem.W.hasDictIn K CNoTie = true)
    (iNoTie : PySem.W.findIn K (.ref CNoTie) "__init__" = some (some (.ref fNoTie)))
    (tiNoTie : PySem.W.typeIn K (.ref fNoTie) = some (.type "function"))
    (lNoTie : K.lookup fNoTie = some ⟨ocNoTie, odNoTie, .func (PySem.W.fnOf "__init__" "NoTie.__init__" (defArgs sNoTieI) (defBody sNoTieI) (defScope sNoTieI) .none kVNoTie dcNoTie pmNoTie anNoTie cdNoTie ctNoTie), slNoTie⟩)
    (cNoTie : PySem.W.codeIn K cdNoTie "NoTie.__init__" = true)
    (kfNoTie : PySem.W.keepIn K (.ref fNoTie) = true)
    (wNoTie : PySem.W.findIn K (.ref CNoTie) "word" = some none)
    (flNoTieone : PySem.W.findIn K (.ref CNoTie) "one" = some none)
    (flNoTieother : PySem.W.findIn K (.ref CNoTie) "other" = some none)
    (icNoTie : PySem.W.isClsIn K CNoTie = true)
    (aStopped : PySem.W.nsIn K mainGlobals "Stopped" = some (some (.ref CStopped)))
    (xStopped : K.lookup CStopped = some (excClassObj nmStopped qnStopped CStopped NStopped bsStopped bmStopped true snStopped subStopped abStopped colStopped ddStopped p0Stopped p1Stopped p2Stopped p3Stopped p5Stopped "ValueError.__new__"))
    (rStopped : PySem.HandSPX.refsVE bmStopped = true)
    (saStopped : PySem.W.findIn K (.ref CStopped) "__setattr__" = some (some (.builtin "object.__setattr__")))
    (exStopped : PySem.W.subIn K (.ref CStopped) (.type "BaseException") = some true)
    (tyStopped : PySem.W.typeIn K (.ref CStopped) = some (.type "type"))
    (kcStopped : PySem.W.keepIn K (.ref CStopped) = true)
    (gaStopped : PySem.W.findIn K (.ref CStopped) "__getattribute__" = some (some (.builtin "BaseException.__getattribute__")))
    (ggStopped : PySem.W.findIn K (.ref CStopped) "__getattr__" = some none)
    (hdStopped : PySem.W.hasDictIn K CStopped = true)
    (iStopped : PySem.W.findIn K (.ref CStopped) "__init__" = some (some (.ref fStopped)))
    (tiStopped : PySem.W.typeIn K (.ref fStopped) = some (.type "function"))
    (lStopped : K.lookup fStopped = some ⟨ocStopped, odStopped, .func (PySem.W.fnOf "__init__" "Stopped.__init__" (defArgs sStoppedI) (defBody sStoppedI) (defScope sStoppedI) .none kVStopped dcStopped pmStopped anStopped cdStopped ctStopped), slStopped⟩)
    (cStopped : PySem.W.codeIn K cdStopped "Stopped.__init__" = true)
    (kfStopped : PySem.W.keepIn K (.ref fStopped) = true)
    (wStopped : PySem.W.findIn K (.ref CStopped) "word" = some none)
    (flStoppedat : PySem.W.findIn K (.ref CStopped) "at" = some none)
    (flStoppedkind : PySem.W.findIn K (.ref CStopped) "kind" = some none)
    (icStopped : PySem.W.isClsIn K CStopped = true)
    (hnI : PySem.W.specialIn K (.builtin "object.__class__") "__get__" = some (some (.builtin "getset_descriptor.__get__")))
    (htI : PySem.W.takesIn K (.builtin "object.__class__") = some true)
    (haTooMany : PySem.W.findIn K (.ref CTooMany) "__class__" = some (some (.builtin "object.__class__")))
    (hmTooMany : PySem.W.mroIn K CTooMany (.type "object") = some true)
    (k1TooMany : PySem.W.kitOne K (.ref CTooMany) (.ref CS) = some true)
    (k2TooMany : PySem.W.kitOne K (.ref CTooMany) (.type "ValueError") = some true)
    (haNoHouse : PySem.W.findIn K (.ref CNoHouse) "__class__" = some (some (.builtin "object.__class__")))
    (hmNoHouse : PySem.W.mroIn K CNoHouse (.type "object") = some true)
    (k1NoHouse : PySem.W.kitOne K (.ref CNoHouse) (.ref CS) = some true)
    (k2NoHouse : PySem.W.kitOne K (.ref CNoHouse) (.type "ValueError") = some true)
    (haNotTaken : PySem.W.findIn K (.ref CNotTaken) "__class__" = some (some (.builtin "object.__class__")))
    (hmNotTaken : PySem.W.mroIn K CNotTaken (.type "object") = some true)
    (k1NotTaken : PySem.W.kitOne K (.ref CNotTaken) (.ref CS) = some true)
    (k2NotTaken : PySem.W.kitOne K (.ref CNotTaken) (.type "ValueError") = some true)
    (haNoTunnel : PySem.W.findIn K (.ref CNoTunnel) "__class__" = some (some (.builtin "object.__class__")))
    (hmNoTunnel : PySem.W.mroIn K CNoTunnel (.type "object") = some true)
    (k1NoTunnel : PySem.W.kitOne K (.ref CNoTunnel) (.ref CS) = some true)
    (k2NoTunnel : PySem.W.kitOne K (.ref CNoTunnel) (.type "ValueError") = some true)
    (haShort : PySem.W.findIn K (.ref CShort) "__class__" = some (some (.builtin "object.__class__")))
    (hmShort : PySem.W.mroIn K CShort (.type "object") = some true)
    (k1Short : PySem.W.kitOne K (.ref CShort) (.ref CS) = some true)
    (k2Short : PySem.W.kitOne K (.ref CShort) (.type "ValueError") = some true)
    (haNoWay : PySem.W.findIn K (.ref CNoWay) "__class__" = some (some (.builtin "object.__class__")))
    (hmNoWay : PySem.W.mroIn K CNoWay (.type "object") = some true)
    (k1NoWay : PySem.W.kitOne K (.ref CNoWay) (.ref CS) = some true)
    (k2NoWay : PySem.W.kitOne K (.ref CNoWay) (.type "ValueError") = some true)
    (haLone : PySem.W.findIn K (.ref CLone) "__class__" = some (some (.builtin "object.__class__")))
    (hmLone : PySem.W.mroIn K CLone (.type "object") = some true)
    (k1Lone : PySem.W.kitOne K (.ref CLone) (.ref CS) = some true)
    (k2Lone : PySem.W.kitOne K (.ref CLone) (.type "ValueError") = some true)
    (haBadDeed : PySem.W.findIn K (.ref CBadDeed) "__class__" = some (some (.builtin "object.__class__")))
    (hmBadDeed : PySem.W.mroIn K CBadDeed (.type "object") = some true)
    (k1BadDeed : PySem.W.kitOne K (.ref CBadDeed) (.ref CS) = some true)
    (k2BadDeed : PySem.W.kitOne K (.ref CBadDeed) (.type "ValueError") = some true)
    (haBadPage : PySem.W.findIn K (.ref CBadPage) "__class__" = some (some (.builtin "object.__class__")))
    (hmBadPage : PySem.W.mroIn K CBadPage (.type "object") = some true)
    (k1BadPage : PySem.W.kitOne K (.ref CBadPage) (.ref CS) = some true)
    (k2BadPage : PySem.W.kitOne K (.ref CBadPage) (.type "ValueError") = some true)
    (haNoTie : PySem.W.findIn K (.ref CNoTie) "__class__" = some (some (.builtin "object.__class__")))
    (hmNoTie : PySem.W.mroIn K CNoTie (.type "object") = some true)
    (k1NoTie : PySem.W.kitOne K (.ref CNoTie) (.ref CS) = some true)
    (k2NoTie : PySem.W.kitOne K (.ref CNoTie) (.type "ValueError") = some true)
    (haStopped : PySem.W.findIn K (.ref CStopped) "__class__" = some (some (.builtin "object.__class__")))
    (hmStopped : PySem.W.mroIn K CStopped (.type "object") = some true)
    (k1Stopped : PySem.W.kitOne K (.ref CStopped) (.ref CS) = some true)
    (k2Stopped : PySem.W.kitOne K (.ref CStopped) (.type "ValueError") = some true)
    (zlen : PySem.W.nsIn K mainGlobals "len" = some none)
    (zrange : PySem.W.nsIn K mainGlobals "range" = some none)
    (zlist : PySem.W.nsIn K mainGlobals "list" = some none)
    (ztuple : PySem.W.nsIn K mainGlobals "tuple" = some none)
    (zisinstance : PySem.W.nsIn K mainGlobals "isinstance" = some none)
    (zbool : PySem.W.nsIn K mainGlobals "bool" = some none)
    (zint : PySem.W.nsIn K mainGlobals "int" = some none)
    (zstr : PySem.W.nsIn K mainGlobals "str" = some none)
    (zall : PySem.W.nsIn K mainGlobals "all" = some none)
    (zzip : PySem.W.nsIn K mainGlobals "zip" = some none)
    (zsum : PySem.W.nsIn K mainGlobals "sum" = some none)
    (zmin : PySem.W.nsIn K mainGlobals "min" = some none)
    (zsorted : PySem.W.nsIn K mainGlobals "sorted" = some none)
    (zabs : PySem.W.nsIn K mainGlobals "abs" = some none)
    (zenumerate : PySem.W.nsIn K mainGlobals "enumerate" = some none)
    : ∃ fd : FuncData, (∀ (s : Shared) (v : Value), BindsTo s fd ⟨[v], []⟩ [("_law_script", v)]) ∧ ∀ base : Heap, K.In base → base.Ns mainGlobals mg → FnOk l.prog w K mg base CX0 12 fa fd ["_law_script"] (spLaw K) := by
  have e := hfa.symm.trans (PySem.W.mg_of X G a4)
  cases e
  have T : BT mg := ⟨PySem.W.mg_none_of X G zlen, PySem.W.mg_none_of X G zrange, PySem.W.mg_none_of X G zlist, PySem.W.mg_none_of X G ztuple, PySem.W.mg_none_of X G zisinstance, PySem.W.mg_none_of X G zbool, PySem.W.mg_none_of X G zint, PySem.W.mg_none_of X G zstr, PySem.W.mg_none_of X G zall, PySem.W.mg_none_of X G zzip, PySem.W.mg_none_of X G zsum, PySem.W.mg_none_of X G zmin, PySem.W.mg_none_of X G zsorted, PySem.W.mg_none_of X G zabs, PySem.W.mg_none_of X G zenumerate⟩
  have F_law_box := fun_mk (st := sBox) l0 c0 k0
  have g_law_box := PySem.W.mg_of X G a0
  have b_law_box := F_law_box.binds (ps := ["_law_script"]) fun _ _ _ _ _ _ us hl => match us, hl with | [_], _ => rfl
  have F_law_take := fun_mk (st := sTake) l1 c1 k1
  have g_law_take := PySem.W.mg_of X G a1
  have b_law_take := F_law_take.binds (ps := ["_law_box_here", "_law_sides"]) fun _ _ _ _ _ _ us hl => match us, hl with | [_, _], _ => rfl
  have F_law_same := fun_mk (st := sSame) l2 c2 k2
  have g_law_same := PySem.W.mg_of X G a2
  have b_law_same := F_law_same.binds (ps := ["_law_found", "_law_due"]) fun _ _ _ _ _ _ us hl => match us, hl with | [_, _], _ => rfl
  have F_law_wild := fun_mk (st := sWild) l3 c3 k3
  have g_law_wild := PySem.W.mg_of X G a3
  have b_law_wild := F_law_wild.binds (ps := ["_law_box_here"]) fun _ _ _ _ _ _ us hl => match us, hl with | [_], _ => rfl
  have Flaw := fun_mk (st := sLaw) l4 c4 k4
  have glaw := PySem.W.mg_of X G a4
  have blaw := Flaw.binds (ps := ["_law_script"]) fun _ _ _ _ _ _ us hl => match us, hl with | [_], _ => rfl
  have FS : FunD K "__init__" "SlipError.__init__" (defArgs sSlipI) (defBody sSlipI) (defScope sSlipI) [.str "sliperror", .str "refused"] [] fS _ := ⟨⟨_, _, _, _, _, _, _, _, _, _, rfl, lS, cS, .inr ⟨fun z => (by cases z), TD, _, [.str "sliperror" tk1, .str "refused" tk2], nT, rfl, lT, rfl, .cons ⟨_, rfl⟩ (.cons ⟨_, rfl⟩ .nil)⟩, .inl rfl⟩, kS⟩
  have bS : Binds K (PySem.W.fnOf "__init__" "SlipError.__init__" (defArgs sSlipI) (defBody sSlipI) (defScope sSlipI) (.ref TD) kVS dcS pmS anS cdS ctS) ["self", "word", "why"] [] := by
    obtain ⟨ds, hd, hb⟩ := FS.binds1 (ps := ["self", "word", "why"]) 3 2 (fun z => by cases z) rfl (fun T kV doc pm an cdv ct us its hu hi => match us, hu, its, hi with | [_, _, _], _, [_, _], _ => ⟨_, rfl, rfl⟩)
    cases hd
    exact hb
  have TS : SlipT K mg CS fS := ⟨PySem.W.mg_of X G aS, ⟨rd, rga⟩, atS, kS, vV, PySem.W.mg_none_of X G zV⟩
  have FTooMany := fun_mk (st := sTooManyI) lTooMany cTooMany kfTooMany
  have bTooMany := FTooMany.binds (ps := ["self", "bound"]) fun _ _ _ _ _ _ us hl => match us, hl with | [_, _], _ => rfl
  have TTooMany : ExcT K mg "TooMany" CTooMany fTooMany := ⟨PySem.W.mg_of X G aTooMany, ⟨⟨_, _, _, _, _, _, _, _, _, _, _, _, _, _, _, xTooMany, rTooMany⟩, saTooMany, exTooMany, tyTooMany, kcTooMany⟩, ⟨gaTooMany, ggTooMany, exTooMany, hdTooMany⟩, iTooMany, tiTooMany, wTooMany⟩
  have FNoHouse := fun_mk (st := sNoHouseI) lNoHouse cNoHouse kfNoHouse
  have bNoHouse := FNoHouse.binds (ps := ["self", "house"]) fun _ _ _ _ _ _ us hl => match us, hl with | [_, _], _ => rfl
  have TNoHouse : ExcT K mg "NoHouse" CNoHouse fNoHouse := ⟨PySem.W.mg_of X G aNoHouse, ⟨⟨_, _, _, _, _, _, _, _, _, _, _, _, _, _, _, xNoHouse, rNoHouse⟩, saNoHouse, exNoHouse, tyNoHouse, kcNoHouse⟩, ⟨gaNoHouse, ggNoHouse, exNoHouse, hdNoHouse⟩, iNoHouse, tiNoHouse, wNoHouse⟩
  have FNotTaken := fun_mk (st := sNotTakenI) lNotTaken cNotTaken kfNotTaken
  have bNotTaken := FNotTaken.binds (ps := ["self", "number"]) fun _ _ _ _ _ _ us hl => match us, hl with | [_, _], _ => rfl
  have TNotTaken : ExcT K mg "NotTaken" CNotTaken fNotTaken := ⟨PySem.W.mg_of X G aNotTaken, ⟨⟨_, _, _, _, _, _, _, _, _, _, _, _, _, _, _, xNotTaken, rNotTaken⟩, saNotTaken, exNotTaken, tyNotTaken, kcNotTaken⟩, ⟨gaNotTaken, ggNotTaken, exNotTaken, hdNotTaken⟩, iNotTaken, tiNotTaken, wNotTaken⟩
  have FNoTunnel := fun_mk (st := sNoTunnelI) lNoTunnel cNoTunnel kfNoTunnel
  have bNoTunnel := FNoTunnel.binds (ps := ["self", "number"]) fun _ _ _ _ _ _ us hl => match us, hl with | [_, _], _ => rfl
  have TNoTunnel : ExcT K mg "NoTunnel" CNoTunnel fNoTunnel := ⟨PySem.W.mg_of X G aNoTunnel, ⟨⟨_, _, _, _, _, _, _, _, _, _, _, _, _, _, _, xNoTunnel, rNoTunnel⟩, saNoTunnel, exNoTunnel, tyNoTunnel, kcNoTunnel⟩, ⟨gaNoTunnel, ggNoTunnel, exNoTunnel, hdNoTunnel⟩, iNoTunnel, tiNoTunnel, wNoTunnel⟩
  have FShort := fun_mk (st := sShortI) lShort cShort kfShort
  have bShort := FShort.binds (ps := ["self", "house"]) fun _ _ _ _ _ _ us hl => match us, hl with | [_, _], _ => rfl
  have TShort : ExcT K mg "Short" CShort fShort := ⟨PySem.W.mg_of X G aShort, ⟨⟨_, _, _, _, _, _, _, _, _, _, _, _, _, _, _, xShort, rShort⟩, saShort, exShort, tyShort, kcShort⟩, ⟨gaShort, ggShort, exShort, hdShort⟩, iShort, tiShort, wShort⟩
  have FNoWay := fun_mk (st := sNoWayI) lNoWay cNoWay kfNoWay
  have bNoWay := FNoWay.binds (ps := ["self", "lot"]) fun _ _ _ _ _ _ us hl => match us, hl with | [_, _], _ => rfl
  have TNoWay : ExcT K mg "NoWay" CNoWay fNoWay := ⟨PySem.W.mg_of X G aNoWay, ⟨⟨_, _, _, _, _, _, _, _, _, _, _, _, _, _, _, xNoWay, rNoWay⟩, saNoWay, exNoWay, tyNoWay, kcNoWay⟩, ⟨gaNoWay, ggNoWay, exNoWay, hdNoWay⟩, iNoWay, tiNoWay, wNoWay⟩
  have FLone := fun_mk (st := sLoneI) lLone cLone kfLone
  have bLone := FLone.binds (ps := ["self", "lot"]) fun _ _ _ _ _ _ us hl => match us, hl with | [_, _], _ => rfl
  have TLone : ExcT K mg "Lone" CLone fLone := ⟨PySem.W.mg_of X G aLone, ⟨⟨_, _, _, _, _, _, _, _, _, _, _, _, _, _, _, xLone, rLone⟩, saLone, exLone, tyLone, kcLone⟩, ⟨gaLone, ggLone, exLone, hdLone⟩, iLone, tiLone, wLone⟩
  have FBadDeed := fun_mk (st := sBadDeedI) lBadDeed cBadDeed kfBadDeed
  have bBadDeed := FBadDeed.binds (ps := ["self", "said"]) fun _ _ _ _ _ _ us hl => match us, hl with | [_, _], _ => rfl
  have TBadDeed : ExcT K mg "BadDeed" CBadDeed fBadDeed := ⟨PySem.W.mg_of X G aBadDeed, ⟨⟨_, _, _, _, _, _, _, _, _, _, _, _, _, _, _, xBadDeed, rBadDeed⟩, saBadDeed, exBadDeed, tyBadDeed, kcBadDeed⟩, ⟨gaBadDeed, ggBadDeed, exBadDeed, hdBadDeed⟩, iBadDeed, tiBadDeed, wBadDeed⟩
  have FBadPage := fun_mk (st := sBadPageI) lBadPage cBadPage kfBadPage
  have bBadPage := FBadPage.binds (ps := ["self", "row"]) fun _ _ _ _ _ _ us hl => match us, hl with | [_, _], _ => rfl
  have TBadPage : ExcT K mg "BadPage" CBadPage fBadPage := ⟨PySem.W.mg_of X G aBadPage, ⟨⟨_, _, _, _, _, _, _, _, _, _, _, _, _, _, _, xBadPage, rBadPage⟩, saBadPage, exBadPage, tyBadPage, kcBadPage⟩, ⟨gaBadPage, ggBadPage, exBadPage, hdBadPage⟩, iBadPage, tiBadPage, wBadPage⟩
  have FNoTie := fun_mk (st := sNoTieI) lNoTie cNoTie kfNoTie
  have bNoTie := FNoTie.binds (ps := ["self", "one", "other"]) fun _ _ _ _ _ _ us hl => match us, hl with | [_, _, _], _ => rfl
  have TNoTie : ExcT K mg "NoTie" CNoTie fNoTie := ⟨PySem.W.mg_of X G aNoTie, ⟨⟨_, _, _, _, _, _, _, _, _, _, _, _, _, _, _, xNoTie, rNoTie⟩, saNoTie, exNoTie, tyNoTie, kcNoTie⟩, ⟨gaNoTie, ggNoTie, exNoTie, hdNoTie⟩, iNoTie, tiNoTie, wNoTie⟩
  have FStopped := fun_mk (st := sStoppedI) lStopped cStopped kfStopped
  have bStopped := FStopped.binds (ps := ["self", "at", "kind"]) fun _ _ _ _ _ _ us hl => match us, hl with | [_, _, _], _ => rfl
  have TStopped : ExcT K mg "Stopped" CStopped fStopped := ⟨PySem.W.mg_of X G aStopped, ⟨⟨_, _, _, _, _, _, _, _, _, _, _, _, _, _, _, xStopped, rStopped⟩, saStopped, exStopped, tyStopped, kcStopped⟩, ⟨gaStopped, ggStopped, exStopped, hdStopped⟩, iStopped, tiStopped, wStopped⟩
  have gTooMany : ExcG K CS CTooMany := ⟨TTooMany.xf, wTooMany, ⟨icTooMany, haTooMany, hnI, htI, hmTooMany⟩, k1TooMany, k2TooMany⟩
  have gNoHouse : ExcG K CS CNoHouse := ⟨TNoHouse.xf, wNoHouse, ⟨icNoHouse, haNoHouse, hnI, htI, hmNoHouse⟩, k1NoHouse, k2NoHouse⟩
  have gNotTaken : ExcG K CS CNotTaken := ⟨TNotTaken.xf, wNotTaken, ⟨icNotTaken, haNotTaken, hnI, htI, hmNotTaken⟩, k1NotTaken, k2NotTaken⟩
  have gNoTunnel : ExcG K CS CNoTunnel := ⟨TNoTunnel.xf, wNoTunnel, ⟨icNoTunnel, haNoTunnel, hnI, htI, hmNoTunnel⟩, k1NoTunnel, k2NoTunnel⟩
  have gShort : ExcG K CS CShort := ⟨TShort.xf, wShort, ⟨icShort, haShort, hnI, htI, hmShort⟩, k1Short, k2Short⟩
  have gNoWay : ExcG K CS CNoWay := ⟨TNoWay.xf, wNoWay, ⟨icNoWay, haNoWay, hnI, htI, hmNoWay⟩, k1NoWay, k2NoWay⟩
  have gLone : ExcG K CS CLone := ⟨TLone.xf, wLone, ⟨icLone, haLone, hnI, htI, hmLone⟩, k1Lone, k2Lone⟩
  have gBadDeed : ExcG K CS CBadDeed := ⟨TBadDeed.xf, wBadDeed, ⟨icBadDeed, haBadDeed, hnI, htI, hmBadDeed⟩, k1BadDeed, k2BadDeed⟩
  have gBadPage : ExcG K CS CBadPage := ⟨TBadPage.xf, wBadPage, ⟨icBadPage, haBadPage, hnI, htI, hmBadPage⟩, k1BadPage, k2BadPage⟩
  have gNoTie : ExcG K CS CNoTie := ⟨TNoTie.xf, wNoTie, ⟨icNoTie, haNoTie, hnI, htI, hmNoTie⟩, k1NoTie, k2NoTie⟩
  have gStopped : ExcG K CS CStopped := ⟨TStopped.xf, wStopped, ⟨icStopped, haStopped, hnI, htI, hmStopped⟩, k1Stopped, k2Stopped⟩
  refine ⟨PySem.W.fnOf "law" "law" (defArgs sLaw) (defBody sLaw) (defScope sLaw) .none kV4 dc4 pm4 an4 cd4 ct4, fun s v => .of_eq rfl, fun base _ _ => ?_⟩
  have GS : FnOk l.prog w K mg base CX0 9 fS _ ["self", "word", "why"] (spSlip K) := ok_slipI (k := 8) FS TS
  have XTooMany : ExcC l.prog w K mg base 10 "TooMany" CTooMany fTooMany _ ["self", "bound"] (spIn1 K "bound" "toomany" askInt gotSame) := ⟨TTooMany, ok_toomanyI (k := 8) FTooMany TS GS bS, bTooMany⟩
  have XNoHouse : ExcC l.prog w K mg base 10 "NoHouse" CNoHouse fNoHouse _ ["self", "house"] (spIn1 K "house" "nohouse" askInt gotSame) := ⟨TNoHouse, ok_nohouseI (k := 8) FNoHouse TS GS bS, bNoHouse⟩
  have XNotTaken : ExcC l.prog w K mg base 10 "NotTaken" CNotTaken fNotTaken _ ["self", "number"] (spIn1 K "number" "nottaken" askInt gotSame) := ⟨TNotTaken, ok_nottakenI (k := 8) FNotTaken TS GS bS, bNotTaken⟩
  have XNoTunnel : ExcC l.prog w K mg base 10 "NoTunnel" CNoTunnel fNoTunnel _ ["self", "number"] (spIn1 K "number" "notunnel" askInt gotSame) := ⟨TNoTunnel, ok_notunnelI (k := 8) FNoTunnel TS GS bS, bNoTunnel⟩
  have XShort : ExcC l.prog w K mg base 10 "Short" CShort fShort _ ["self", "house"] (spIn1 K "house" "short" askInt gotSame) := ⟨TShort, ok_shortI (k := 8) FShort TS GS bS, bShort⟩
  have XNoWay : ExcC l.prog w K mg base 10 "NoWay" CNoWay fNoWay _ ["self", "lot"] (spIn1 K "lot" "noway" (askLot K) gotLot) := ⟨TNoWay, ok_nowayI (k := 8) FNoWay TS GS bS T.list, bNoWay⟩
  have XLone : ExcC l.prog w K mg base 10 "Lone" CLone fLone _ ["self", "lot"] (spIn1 K "lot" "lone" (askLot K) gotLot) := ⟨TLone, ok_loneI (k := 8) FLone TS GS bS T.list, bLone⟩
  have XBadDeed : ExcC l.prog w K mg base 10 "BadDeed" CBadDeed fBadDeed _ ["self", "said"] (spIn1 K "said" "baddeed" askStr gotSame) := ⟨TBadDeed, ok_baddeedI (k := 8) FBadDeed TS GS bS, bBadDeed⟩
  have XBadPage : ExcC l.prog w K mg base 10 "BadPage" CBadPage fBadPage _ ["self", "row"] (spIn1 K "row" "badpage" askInt gotSame) := ⟨TBadPage, ok_badpageI (k := 8) FBadPage TS GS bS, bBadPage⟩
  have XNoTie : ExcC l.prog w K mg base 10 "NoTie" CNoTie fNoTie _ ["self", "one", "other"] (spIn2 K "one" "other" "notie") := ⟨TNoTie, ok_notieI (k := 8) FNoTie TS GS bS, bNoTie⟩
  have XStopped : ExcC l.prog w K mg base 10 "Stopped" CStopped fStopped _ ["self", "at", "kind"] (spInS K "at" "kind" "stopped") := ⟨TStopped, ok_stoppedI (k := 8) FStopped TS GS bS, bStopped⟩
  exact ok_law Flaw T TS ⟨ok_box (k := 10) F_law_box T.list, g_law_box, k0, b_law_box⟩ ⟨ok_take (k := 10) F_law_take T.len, g_law_take, k1, b_law_take⟩ ⟨ok_same F_law_same ⟨T.isinstance, T.list, T.tuple, T.bool, T.int, T.str, T.len, T.all, T.zip⟩ g_law_same b_law_same 11, g_law_same, k2, b_law_same⟩ ⟨ok_wild (k := 9) F_law_wild ⟨ok_take (k := 9) F_law_take T.len, g_law_take, k1, b_law_take⟩, g_law_wild, k3, b_law_wild⟩ XTooMany flTooManybound gTooMany XNoHouse flNoHousehouse gNoHouse XNotTaken flNotTakennumber gNotTaken XNoTunnel flNoTunnelnumber gNoTunnel XShort flShorthouse gShort XNoWay flNoWaylot gNoWay XLone flLonelot gLone XBadDeed flBadDeedsaid gBadDeed XBadPage flBadPagerow gBadPage XNoTie flNoTieone flNoTieother gNoTie XStopped flStoppedat flStoppedkind gStopped
theorem walk {l : PySem.W.OpenLaw} {q : Program} {loose : List Str} {XP : (Str → Option Value) → Heap → Prop} {YP : World → Heap → Prop} {d : DefRec} {K : Params → PySem.W.Frag} (hn : l.most = some 63) (hdf : d.params.defaults = [])
    (hY : ∀ (w : World) (h : Heap), YP w h → (K w.params).In h)
    (F : ∀ (w : World) (mg : Str → Option Value) (fa : Addr) (h : Heap), (K w.params).In h → h.Ns mainGlobals mg → mg d.name = some (.ref fa) →
      ∃ fd : FuncData, (∀ (s : Shared) (u : Value), BindsTo s fd ⟨[u], []⟩ [("_law_script", u)]) ∧ ∀ base : Heap, (K w.params).In base → base.Ns mainGlobals mg → FnOk l.prog w (K w.params) mg base CX0 12 fa fd ["_law_script"] (spLaw (K w.params))) :
    PySem.W.WalkO q loose XP YP l.row.toRowW d [] (fun f vs => PySem.call f vs) :=
  L2.walk_of (n := 63) (k := 12) (x := "_law_script") (CX := fun _ => CX0) (sp := fun w => spLaw (K w.params)) hn (by decide) hdf ⟨rfl, by decide, by decide⟩ hY F (fun _ _ a ns hl _ hS => ⟨a, ns, rfl, hS, hl, fun _ => rfl⟩) fun _ _ _ _ _ z => z
end K
open PySem PySem.W PyProof.Rows
set_option maxRecDepth 100000 in
set_option maxHeartbeats 0 in
theorem PySem.Challenge.cw_swapslip_k65_refusals_made_by_themselves_holds : PySem.Challenge.rw_swapslip_k65_refusals_made_by_themselves.Holds := by
  w_on; o_law; k_head; (case hw => w_witness2)
  k_fill
  refine K.walk (l := PySem.Challenge.rw_swapslip_k65_refusals_made_by_themselves) rfl rfl (fun w h Y => PySem.W.kIn_of Y) ?F
  case F =>
    intro w mg fa h KX G hmg
    refine' K.all_mk KX G hmg ?a0 ?l0 ?c0 ?k0 ?a1 ?l1 ?c1 ?k1 ?a2 ?l2 ?c2 ?k2 ?a3 ?l3 ?c3 ?k3 ?a4 ?l4 ?c4 ?k4 ?aS ?rd ?rga ?atS ?lS ?lT ?cS ?kS ?vV ?zV ?aTooMany ?xTooMany ?rTooMany ?saTooMany ?exTooMany ?tyTooMany ?kcTooMany ?gaTooMany ?ggTooMany ?hdTooMany ?iTooMany ?tiTooMany ?lTooMany ?cTooMany ?kfTooMany ?wTooMany ?flTooManybound ?icTooMany ?aNoHouse ?xNoHouse ?rNoHouse ?saNoHouse ?exNoHouse ?tyNoHouse ?kcNoHouse ?gaNoHouse ?ggNoHouse ?hdNoHouse ?iNoHouse ?tiNoHouse ?lNoHouse ?cNoHouse ?kfNoHouse ?wNoHouse ?flNoHousehouse ?icNoHouse ?aNotTaken ?xNotTaken ?rNotTaken ?saNotTaken ?exNotTaken ?tyNotTaken ?kcNotTaken ?gaNotTaken ?ggNotTaken ?hdNotTaken ?iNotTaken ?tiNotTaken ?lNotTaken ?cNotTaken ?kfNotTaken ?wNotTaken ?flNotTakennumber ?icNotTaken ?aNoTunnel ?xNoTunnel ?rNoTunnel ?saNoTunnel ?exNoTunnel ?tyNoTunnel ?kcNoTunnel ?gaNoTunnel ?ggNoTunnel ?hdNoTunnel ?iNoTunnel ?tiNoTunnel ?lNoTunnel ?cNoTunnel ?kfNoTunnel ?wNoTunnel ?flNoTunnelnumber ?icNoTunnel ?aShort ?xShort ?rShort ?saShort ?exShort ?tyShort ?kcShort ?gaShort ?ggShort ?hdShort ?iShort ?tiShort ?lShort ?cShort ?kfShort ?wShort ?flShorthouse ?icShort ?aNoWay ?xNoWay ?rNoWay ?saNoWay ?exNoWay ?tyNoWay ?kcNoWay ?gaNoWay ?ggNoWay ?hdNoWay ?iNoWay ?tiNoWay ?lNoWay ?cNoWay ?kfNoWay ?wNoWay ?flNoWaylot ?icNoWay ?aLone ?xLone ?rLone ?saLone ?exLone ?tyLone ?kcLone ?gaLone ?ggLone ?hdLone ?iLone ?tiLone ?lLone ?cLone ?kfLone ?wLone ?flLonelot ?icLone ?aBadDeed ?xBadDeed ?rBadDeed ?saBadDeed ?exBadDeed ?tyBadDeed ?kcBadDeed ?gaBadDeed ?ggBadDeed ?hdBadDeed ?iBadDeed ?tiBadDeed ?lBadDeed ?cBadDeed ?kfBadDeed ?wBadDeed ?flBadDeedsaid ?icBadDeed ?aBadPage ?xBadPage ?rBadPage ?saBadPage ?exBadPage ?tyBadPage ?kcBadPage ?gaBadPage ?ggBadPage ?hdBadPage ?iBadPage ?tiBadPage ?lBadPage ?cBadPage ?kfBadPage ?wBadPage ?flBadPagerow ?icBadPage ?aNoTie ?xNoTie ?rNoTie ?saNoTie ?exNoTie ?tyNoTie ?kcNoTie ?gaNoTie ?ggNoTie ?hdNoTie ?iNoTie ?tiNoTie ?lNoTie ?cNoTie ?kfNoTie ?wNoTie ?flNoTieone ?flNoTieother ?icNoTie ?aStopped ?xStopped ?rStopped ?saStopped ?exStopped ?tyStopped ?kcStopped ?gaStopped ?ggStopped ?hdStopped ?iStopped ?tiStopped ?lStopped ?cStopped ?kfStopped ?wStopped ?flStoppedat ?flStoppedkind ?icStopped ?hnI ?htI ?haTooMany ?hmTooMany ?k1TooMany ?k2TooMany ?haNoHouse ?hmNoHouse ?k1NoHouse ?k2NoHouse ?haNotTaken ?hmNotTaken ?k1NotTaken ?k2NotTaken ?haNoTunnel ?hmNoTunnel ?k1NoTunnel ?k2NoTunnel ?haShort ?hmShort ?k1Short ?k2Short ?haNoWay ?hmNoWay ?k1NoWay ?k2NoWay ?haLone ?hmLone ?k1Lone ?k2Lone ?haBadDeed ?hmBadDeed ?k1BadDeed ?k2BadDeed ?haBadPage ?hmBadPage ?k1BadPage ?k2BadPage ?haNoTie ?hmNoTie ?k1NoTie ?k2NoTie ?haStopped ?hmStopped ?k1Stopped ?k2Stopped ?zlen ?zrange ?zlist ?ztuple ?zisinstance ?zbool ?zint ?zstr ?zall ?zzip ?zsum ?zmin ?zsorted ?zabs ?zenumerate
    (case a0 => k_is)
    (case l0 => k_is)
    (case c0 => k_is)
    (case k0 => k_is)
    (case a1 => k_is)
    (case l1 => k_is)
    (case c1 => k_is)
    (case k1 => k_is)
    (case a2 => k_is)
    (case l2 => k_is)
    (case c2 => k_is)
    (case k2 => k_is)
    (case a3 => k_is)
    (case l3 => k_is)
    (case c3 => k_is)
    (case k3 => k_is)
    (case a4 => k_is)
    (case l4 => k_is)
    (case c4 => k_is)
    (case k4 => k_is)
    (case aS => k_is)
    (case rd => k_is)
    (case rga => k_is)
    (case atS => k_is)
    (case lS => k_is)
    (case lT => k_is)
    (case cS => k_is)
    (case kS => k_is)
    (case vV => k_is)
    (case zV => k_is)
    (case aTooMany => k_is)
    (case xTooMany => k_is)
    (case rTooMany => first | rfl | decide +kernel)
    (case saTooMany => k_is)
    (case exTooMany => k_is)
    (case tyTooMany => k_is)
    (case kcTooMany => k_is)
    (case gaTooMany => k_is)
    (case ggTooMany => k_is)
    (case hdTooMany => k_is)
    (case iTooMany => k_is)
    (case tiTooMany => k_is)
    (case lTooMany => k_is)
    (case cTooMany => k_is)
    (case kfTooMany => k_is)
    (case wTooMany => k_is)
    (case flTooManybound => k_is)
    (case icTooMany => k_is)
    (case aNoHouse => k_is)
    (case xNoHouse => k_is)
    (case rNoHouse => first | rfl | decide +kernel)
    (case saNoHouse => k_is)
    (case exNoHouse => k_is)
    (case tyNoHouse => k_is)
    (case kcNoHouse => k_is)
    (case gaNoHouse => k_is)
    (case ggNoHouse => k_is)
    (case hdNoHouse => k_is)
    (case iNoHouse => k_is)
    (case tiNoHouse => k_is)
    (case lNoHouse => k_is)
    (case cNoHouse => k_is)
    (case kfNoHouse => k_is)
    (case wNoHouse => k_is)
    (case flNoHousehouse => k_is)
    (case icNoHouse => k_is)
    (case aNotTaken => k_is)
    (case xNotTaken => k_is)
    (case rNotTaken => first | rfl | decide +kernel)
    (case saNotTaken => k_is)
    (case exNotTaken => k_is)
    (case tyNotTaken => k_is)
    (case kcNotTaken => k_is)
    (case gaNotTaken => k_is)
    (case ggNotTaken => k_is)
    (case hdNotTaken => k_is)
    (case iNotTaken => k_is)
    (case tiNotTaken => k_is)
    (case lNotTaken => k_is)
    (case cNotTaken => k_is)
    (case kfNotTaken => k_is)
    (case wNotTaken => k_is)
    (case flNotTakennumber => k_is)
    (case icNotTaken => k_is)
    (case aNoTunnel => k_is)
    (case xNoTunnel => k_is)
    (case rNoTunnel => first | rfl | decide +kernel)
    (case saNoTunnel => k_is)
    (case exNoTunnel => k_is)
    (case tyNoTunnel => k_is)
    (case kcNoTunnel => k_is)
    (case gaNoTunnel => k_is)
    (case ggNoTunnel => k_is)
    (case hdNoTunnel => k_is)
    (case iNoTunnel => k_is)
    (case tiNoTunnel => k_is)
    (case lNoTunnel => k_is)
    (case cNoTunnel => k_is)
    (case kfNoTunnel => k_is)
    (case wNoTunnel => k_is)
    (case flNoTunnelnumber => k_is)
    (case icNoTunnel => k_is)
    (case aShort => k_is)
    (case xShort => k_is)
    (case rShort => first | rfl | decide +kernel)
    (case saShort => k_is)
    (case exShort => k_is)
    (case tyShort => k_is)
    (case kcShort => k_is)
    (case gaShort => k_is)
    (case ggShort => k_is)
    (case hdShort => k_is)
    (case iShort => k_is)
    (case tiShort => k_is)
    (case lShort => k_is)
    (case cShort => k_is)
    (case kfShort => k_is)
    (case wShort => k_is)
    (case flShorthouse => k_is)
    (case icShort => k_is)
    (case aNoWay => k_is)
    (case xNoWay => k_is)
    (case rNoWay => first | rfl | decide +kernel)
    (case saNoWay => k_is)
    (case exNoWay => k_is)
    (case tyNoWay => k_is)
    (case kcNoWay => k_is)
    (case gaNoWay => k_is)
    (case ggNoWay => k_is)
    (case hdNoWay => k_is)
    (case iNoWay => k_is)
    (case tiNoWay => k_is)
    (case lNoWay => k_is)
    (case cNoWay => k_is)
    (case kfNoWay => k_is)
    (case wNoWay => k_is)
    (case flNoWaylot => k_is)
    (case icNoWay => k_is)
    (case aLone => k_is)
    (case xLone => k_is)
    (case rLone => first | rfl | decide +kernel)
    (case saLone => k_is)
    (case exLone => k_is)
    (case tyLone => k_is)
    (case kcLone => k_is)
    (case gaLone => k_is)
    (case ggLone => k_is)
    (case hdLone => k_is)
    (case iLone => k_is)
    (case tiLone => k_is)
    (case lLone => k_is)
    (case cLone => k_is)
    (case kfLone => k_is)
    (case wLone => k_is)
    (case flLonelot => k_is)
    (case icLone => k_is)
    (case aBadDeed => k_is)
    (case xBadDeed => k_is)
    (case rBadDeed => first | rfl | decide +kernel)
    (case saBadDeed => k_is)
    (case exBadDeed => k_is)
    (case tyBadDeed => k_is)
    (case kcBadDeed => k_is)
    (case gaBadDeed => k_is)
    (case ggBadDeed => k_is)
    (case hdBadDeed => k_is)
    (case iBadDeed => k_is)
    (case tiBadDeed => k_is)
    (case lBadDeed => k_is)
    (case cBadDeed => k_is)
    (case kfBadDeed => k_is)
    (case wBadDeed => k_is)
    (case flBadDeedsaid => k_is)
    (case icBadDeed => k_is)
    (case aBadPage => k_is)
    (case xBadPage => k_is)
    (case rBadPage => first | rfl | decide +kernel)
    (case saBadPage => k_is)
    (case exBadPage => k_is)
    (case tyBadPage => k_is)
    (case kcBadPage => k_is)
    (case gaBadPage => k_is)
    (case ggBadPage => k_is)
    (case hdBadPage => k_is)
    (case iBadPage => k_is)
    (case tiBadPage => k_is)
    (case lBadPage => k_is)
    (case cBadPage => k_is)
    (case kfBadPage => k_is)
    (case wBadPage => k_is)
    (case flBadPagerow => k_is)
    (case icBadPage => k_is)
    (case aNoTie => k_is)
    (case xNoTie => k_is)
    (case rNoTie => first | rfl | decide +kernel)
    (case saNoTie => k_is)
    (case exNoTie => k_is)
    (case tyNoTie => k_is)
    (case kcNoTie => k_is)
    (case gaNoTie => k_is)
    (case ggNoTie => k_is)
    (case hdNoTie => k_is)
    (case iNoTie => k_is)
    (case tiNoTie => k_is)
    (case lNoTie => k_is)
    (case cNoTie => k_is)
    (case kfNoTie => k_is)
    (case wNoTie => k_is)
    (case flNoTieone => k_is)
    (case flNoTieother => k_is)
    (case icNoTie => k_is)
    (case aStopped => k_is)
    (case xStopped => k_is)
    (case rStopped => first | rfl | decide +kernel)
    (case saStopped => k_is)
    (case exStopped => k_is)
    (case tyStopped => k_is)
    (case kcStopped => k_is)
    (case gaStopped => k_is)
    (case ggStopped => k_is)
    (case hdStopped => k_is)
    (case iStopped => k_is)
    (case tiStopped => k_is)
    (case lStopped => k_is)
    (case cStopped => k_is)
    (case kfStopped => k_is)
    (case wStopped => k_is)
    (case flStoppedat => k_is)
    (case flStoppedkind => k_is)
    (case icStopped => k_is)
    (case hnI => k_is)
    (case htI => k_is)
    (case haTooMany => k_is)
    (case hmTooMany => k_is)
    (case k1TooMany => first | rfl | k_is)
    (case k2TooMany => first | rfl | k_is)
    (case haNoHouse => k_is)
    (case hmNoHouse => k_is)
    (case k1NoHouse => first | rfl | k_is)
    (case k2NoHouse => first | rfl | k_is)
    (case haNotTaken => k_is)
    (case hmNotTaken => k_is)
    (case k1NotTaken => first | rfl | k_is)
    (case k2NotTaken => first | rfl | k_is)
    (case haNoTunnel => k_is)
    (case hmNoTunnel => k_is)
    (case k1NoTunnel => first | rfl | k_is)
    (case k2NoTunnel => first | rfl | k_is)
    (case haShort => k_is)
    (case hmShort => k_is)
    (case k1Short => first | rfl | k_is)
    (case k2Short => first | rfl | k_is)
    (case haNoWay => k_is)
    (case hmNoWay => k_is)
    (case k1NoWay => first | rfl | k_is)
    (case k2NoWay => first | rfl | k_is)
    (case haLone => k_is)
    (case hmLone => k_is)
    (case k1Lone => first | rfl | k_is)
    (case k2Lone => first | rfl | k_is)
    (case haBadDeed => k_is)
    (case hmBadDeed => k_is)
    (case k1BadDeed => first | rfl | k_is)
    (case k2BadDeed => first | rfl | k_is)
    (case haBadPage => k_is)
    (case hmBadPage => k_is)
    (case k1BadPage => first | rfl | k_is)
    (case k2BadPage => first | rfl | k_is)
    (case haNoTie => k_is)
    (case hmNoTie => k_is)
    (case k1NoTie => first | rfl | k_is)
    (case k2NoTie => first | rfl | k_is)
    (case haStopped => k_is)
    (case hmStopped => k_is)
    (case k1Stopped => first | rfl | k_is)
    (case k2Stopped => first | rfl | k_is)
    (case zlen => k_is)
    (case zrange => k_is)
    (case zlist => k_is)
    (case ztuple => k_is)
    (case zisinstance => k_is)
    (case zbool => k_is)
    (case zint => k_is)
    (case zstr => k_is)
    (case zall => k_is)
    (case zzip => k_is)
    (case zsum => k_is)
    (case zmin => k_is)
    (case zsorted => k_is)
    (case zabs => k_is)
    (case zenumerate => k_is)
