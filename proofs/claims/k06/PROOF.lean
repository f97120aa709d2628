import PyProof.Rows.All
import Wide.All
import OpenK.AllK
import Wide.FinOn
import HandS.ForMost
import HandS.IsInst
import HandS.Zip
import HandS.Walk
import HandS.More
import HandS.SortKw
import HandS.ForExc
import HandS.ExcInit
import HandS.ExcField
import HandS.TryMany
import HandS.ClsMeth
import HandS.FStr
import HandS.FStrTup
import HandS.WordsExc
import HandS.Defaults
import HandS.SuiteRaise
import HandS.RaiseFrom
import HandS.ExcInitHot
import KE.KAsSuite
import PySem.Challenge.RW_swapslip_k06_ways_round_ties
set_option Elab.async false
set_option linter.all false
set_option maxRecDepth 100000
set_option maxHeartbeats 2000000


namespace PySem
namespace F
theorem args_sum2 (a b : Value) : argsOk "sum" ⟨[a, b], []⟩ := by unfold argsOk; kernel_rfl
end F
/-- the items of the lists from the i-th on, k of them -/
def catFrom (xs : Nat → Array Value) (i : Nat) : Nat → Array Value
  | 0 => #[]
  | k + 1 => xs i ++ catFrom xs (i + 1) k
section
variable {prog : Program} {w : World} {A : Around} {R : Result → Shared → Prop}
theorem sum_lists_loop (hh : A.in1.handled = none) (I ax S : Addr) (hne : ax ≠ I) (hSI : S ≠ I) (hSa : S ≠ ax) (items : Array Value) (ls : Nat → Addr) (xs : Nat → Array Value)
    (hit : ∀ (i : Nat) (v : Value), items[i]? = some v → v = Value.ref (ls i)) (hlI : ∀ i, i < items.size → ls i ≠ I) (hlS : ∀ i, i < items.size → ls i ≠ S) :
    ∀ (k i : Nat) (s : Shared) (acc : Addr) (ai : Array Value) (m c : Nat), items.size - i = k → i ≤ items.size → (s.heap.IsListIter I ax i ∧ s.heap.IsList ax items) →
      s.heap.get? S = some { cls := .type "list", dict := none, data := .seq #[.ref acc] c, slots := #[] } → s.heap.get? acc = some { cls := .type "list", data := .seq ai m } →
      (∀ j, j < items.size → ∃ n, s.heap.get? (ls j) = some { cls := .type "list", data := .seq (xs j) n }) → acc ≠ I → acc ≠ S →
      ai.size + (catFrom xs i k).size ≤ sizeLine →
      (∀ h' tk r n, (∀ b o, b ≠ I → b ≠ S → s.heap.get? b = some o → h'.get? b = some o) → h'.get? r = some { cls := .type "list", data := .seq (ai ++ catFrom xs i k) n } → (k = 0 → r = acc) → (0 < k → S < r) → R (.ok (.ret (.ref r))) { s with heap := h', toks := tk }) →
      codeAny (model prog w) A (.builtin "sum.loop" ⟨[.ref I, .ref S, rawInt 2, rawInt 0], []⟩) R s := by
  have W := Walks.list (prog := prog) (w := w) hh I ax hne items
  intro k
  induction k with
  | zero =>
    intro i s acc ai m c hk hi hst hS ha hl haI haS hz hR
    have hin : i = items.size := by omega
    subst hin
    refine codeAny_builtin F.entry_sum_loop ?_
    rw [Around.under_plainId F.plain_sum_loop _]
    show wpAny _ A.in1 (seqItems? (.ref S) >>= _) _ _ s
    refine wpAny_bind (wpAny_seqItems hS rfl ?_)
    show wpAny _ A.in1 (tryCatch (pyNext (.ref I)) _ >>= _) _ _ s
    refine wpAny_bind (wpAny_tryCatch (W.done s _ _ hst fun h' tk hk' => ?_))
    refine wpAny_pure (hR h' tk acc m (fun b o hbI hbS e => hk' b o (by simpa using hbI) e) ?_ (fun _ => rfl) (fun h => absurd h (Nat.lt_irrefl _)))
    have := hk' acc _ (by simpa using haI) ha
    simpa [catFrom] using this
  | succ k ih =>
    intro i s acc ai m c hk hi hst hS ha hl haI haS hz hR
    have hlt : i < items.size := by omega
    refine codeAny_builtin F.entry_sum_loop ?_
    rw [Around.under_plainId F.plain_sum_loop _]
    show wpAny _ A.in1 (seqItems? (.ref S) >>= _) _ _ s
    refine wpAny_bind (wpAny_seqItems hS rfl ?_)
    show wpAny _ A.in1 (tryCatch (pyNext (.ref I)) _ >>= _) _ _ s
    refine wpAny_bind (wpAny_tryCatch (W.item i s _ _ hlt hst fun v h' tk hP hst' hk' => ?_))
    have ev := hit i v hP
    subst ev
    have hS' := hk' S _ (by simpa using hSI) hS
    have ha' := hk' acc _ (by simpa using haI) ha
    obtain ⟨n1, hl1⟩ := hl i hlt
    have hl1' := hk' (ls i) _ (by simpa using hlI i hlt) hl1
    have hzz : ai.size + (xs i).size ≤ sizeLine := by
      have : (catFrom xs i (k + 1)).size = (xs i).size + (catFrom xs (i + 1) k).size := by simp [catFrom]
      omega
    show wpAny _ A.in1 ((holding [Value.ref (ls i)] (binaryOp .Add (.ref acc) (.ref (ls i)))).attempt >>= _) _ _ _
    refine wpAny_bind (wpAny_attempt (wpAny_holding (PySem.P.add_list (s := { s with heap := h', toks := tk }) ha' hl1' ?_ hzz)))
    have hSz : S < h'.objs.size := Heap.lt_size hS'
    have hIz : I < h'.objs.size := by obtain ⟨_, e, _⟩ := hst'.1; exact Heap.lt_size e
    have hS2 : (h'.push { cls := .type "list", data := .seq (ai ++ xs i) }).get? S = _ := Heap.get?_push_of_some _ hS'
    show wpAny _ A.in1 (updateSeq S (fun _ => #[.ref h'.objs.size]) >>= _) _ _ _
    refine wpAny_bind (wpAny_updateSeq hS2 rfl ?_)
    have hS₃ := Heap.get?_update_self (Obj.mapSeq fun _ => #[Value.ref h'.objs.size]) hS2 rfl
    refine wpAny_bind (wpAny_letGo ?_)
    refine wpAny_bind (wpAny_updateSeq hS₃ rfl ?_)
    have hS₄ := Heap.get?_update_self (Obj.mapSeq fun _ => #[Value.ref h'.objs.size]) hS₃ rfl
    have keep : ∀ b o, b ≠ S → h'.get? b = some o → (((h'.push { cls := .type "list", data := .seq (ai ++ xs i) }).update S (Obj.mapSeq fun _ => #[Value.ref h'.objs.size])).update S (Obj.mapSeq fun _ => #[Value.ref h'.objs.size])).get? b = some o := fun b o hb e =>
      (Heap.get?_update_other _ _ (Ne.symm hb)).trans ((Heap.get?_update_other _ _ (Ne.symm hb)).trans (Heap.get?_push_of_some _ e))
    have hnew : (((h'.push { cls := .type "list", data := .seq (ai ++ xs i) }).update S (Obj.mapSeq fun _ => #[Value.ref h'.objs.size])).update S (Obj.mapSeq fun _ => #[Value.ref h'.objs.size])).get? h'.objs.size = some { cls := .type "list", data := .seq (ai ++ xs i) } :=
      (Heap.get?_update_other _ _ (Nat.ne_of_lt hSz)).trans ((Heap.get?_update_other _ _ (Nat.ne_of_lt hSz)).trans (Heap.get?_push_size _ rfl))
    refine wpAny_pure ⟨plainId_quiet F.plain_sum_loop _, ih (i + 1) _ h'.objs.size (ai ++ xs i) _ _ (by omega) hlt (W.frame _ _ _ hst' fun b hb o e => keep b o ?_ e) hS₄ hnew ?_ (Nat.ne_of_gt hIz) (Nat.ne_of_gt hSz) ?_ ?_⟩
    · intro q; subst q
      rcases List.mem_cons.mp hb with q | q
      · exact hSI q
      · exact hSa (by simpa using q)
    · intro j hj
      obtain ⟨n2, e2⟩ := hl j hj
      exact ⟨n2, keep _ _ (hlS j hj) (hk' _ _ (by simpa using hlI j hj) e2)⟩
    · have : (catFrom xs i (k + 1)).size = (xs i).size + (catFrom xs (i + 1) k).size := by simp [catFrom]
      simp only [Array.size_append]
      omega
    · intro h2 tk2 r n hk2 hr h0 h1
      refine hR h2 tk2 r n (fun b o hbI hbS e => hk2 b o hbI hbS (keep b o hbS (hk' b o (by simpa using hbI) e))) ?_ (fun q => by omega) (fun _ => ?_)
      · simpa [catFrom, Array.append_assoc] using hr
      · by_cases h00 : k = 0
        · rw [h0 h00]; exact hSz
        · exact h1 (by omega)
end
section
variable {prog : Program} {w : World} {A : Around} {E : Value → Shared → Prop} {s : Shared}
theorem sub_list_str : isSubtype (.type "list") (.type "str") = pure false := by rw [isSubtype_type]; kernel_rfl
theorem sub_list_bytes : isSubtype (.type "list") (.type "bytes") = pure false := by rw [isSubtype_type]; kernel_rfl
theorem sub_list_bytearray : isSubtype (.type "list") (.type "bytearray") = pure false := by rw [isSubtype_type]; kernel_rfl
theorem call_sum_lists {l z : Addr} {items zi : Array Value} {nl nz : Nat} {Q : Value → Shared → Prop} (ls : Nat → Addr) (xs : Nat → Array Value) (hh : A.in1.handled = none)
    (hl : s.heap.get? l = some { cls := .type "list", data := .seq items nl }) (hz : s.heap.get? z = some { cls := .type "list", data := .seq zi nz })
    (hit : ∀ (i : Nat) (v : Value), items[i]? = some v → v = Value.ref (ls i)) (hls : ∀ j, j < items.size → ∃ n, s.heap.get? (ls j) = some { cls := .type "list", data := .seq (xs j) n }) (hpos : 0 < items.size)
    (hsz : zi.size + (catFrom xs 0 items.size).size ≤ sizeLine)
    (h : ∀ h' tk r n, (∀ b o, s.heap.get? b = some o → h'.get? b = some o) → s.heap.objs.size ≤ r → h'.get? r = some { cls := .type "list", data := .seq (zi ++ catFrom xs 0 items.size) n } → Q (.ref r) { s with heap := h', toks := tk }) :
    wpAny (model prog w) A (call (.builtin "sum") [.ref l, .ref z]) Q E s := by
  have hil : s.heap.IsList l items := ⟨_, hl, rfl, _, rfl⟩
  have hiz : s.heap.IsList z zi := ⟨_, hz, rfl, _, rfl⟩
  refine call_function_tree F.kind_sum F.plain_sum F.entry_sum (F.args_sum2 _ _) ?_
  unfold Builtin.«sum»
  simp only [List.length_cons, List.length_nil]
  rw [if_neg (by decide)]
  refine wpAny_bind (wpAny_of_eq (show Builtin.Builtins.bindParams "sum" ["start"] 0 ⟨[.ref z], []⟩ = pure [some (.ref z)] from rfl) ?_)
  refine wpAny_bind (L2.iter_any hil fun s₂ e2 st hne => ?_)
  subst e2
  refine wpAny_bind (wpAny_pure ?_)
  have hiz2 := hiz.push { cls := .type "list_iterator", data := .fields #[.ref l, .int 0 0] }
  simp only [List.forIn_cons, List.forIn_nil]
  refine wpAny_bind (wpAny_bind (wpAny_bind (wpAny_isInstance (T := "list") (b := false) hiz2.typeIs sub_list_str ?_)))
  simp only [Bool.false_eq_true, if_false]
  refine wpAny_pure (wpAny_bind (wpAny_bind (wpAny_isInstance (T := "list") (b := false) hiz2.typeIs sub_list_bytes ?_)))
  simp only [Bool.false_eq_true, if_false]
  refine wpAny_pure (wpAny_bind (wpAny_bind (wpAny_isInstance (T := "list") (b := false) hiz2.typeIs sub_list_bytearray ?_)))
  simp only [Bool.false_eq_true, if_false]
  refine wpAny_pure (wpAny_pure ?_)
  refine wpAny_bind (wpAny_newObj_type ?_)
  have hsz1 : (s.heap.push { cls := .type "list_iterator", data := .fields #[.ref l, .int 0 0] }).objs.size = s.heap.objs.size + 1 := Heap.size_push _ _
  have old : ∀ b o, s.heap.get? b = some o → ((s.heap.push { cls := .type "list_iterator", data := .fields #[.ref l, .int 0 0] }).push { cls := .type "list", data := .seq #[Value.ref z] }).get? b = some o := fun b o e =>
    Heap.get?_push_of_some _ (Heap.get?_push_of_some _ e)
  have lt : ∀ b o, s.heap.get? b = some o → b < s.heap.objs.size := fun b o e => Heap.lt_size e
  have lt2 : ∀ b, b < s.heap.objs.size → b ≠ (s.heap.push { cls := .type "list_iterator", data := .fields #[.ref l, .int 0 0] }).objs.size := fun b hb => Nat.ne_of_lt (by rw [hsz1]; exact Nat.lt_succ_of_lt hb)
  refine wpAny_pure ⟨plainId_quiet F.plain_sum_loop _, sum_lists_loop (A := A) hh s.heap.objs.size l (s.heap.push { cls := .type "list_iterator", data := .fields #[.ref l, .int 0 0] }).objs.size hne (Nat.ne_of_gt (by rw [hsz1]; exact Nat.lt_succ_self _)) (Ne.symm (lt2 _ (lt _ _ hl))) items ls xs hit
    (fun i hi => by obtain ⟨n, e⟩ := hls i hi; exact Nat.ne_of_lt (lt _ _ e)) (fun i hi => by obtain ⟨n, e⟩ := hls i hi; exact lt2 _ (lt _ _ e))
    items.size 0 _ z zi nz 0 (by omega) (Nat.zero_le _) ⟨st.1.at fun o e => Heap.get?_push_of_some _ e, st.2.push _⟩ (Heap.get?_push_size _ rfl) (old _ _ hz) (fun j hj => by obtain ⟨n, e⟩ := hls j hj; exact ⟨n, old _ _ e⟩)
    (Nat.ne_of_lt (lt _ _ hz)) (lt2 _ (lt _ _ hz)) hsz fun h' tk r n hk hr _ h1 => ?_⟩
  refine h h' tk r n (fun b o e => hk b o (Nat.ne_of_lt (lt _ _ e)) (lt2 _ (lt _ _ e)) (old b o e)) ?_ hr
  have := h1 hpos
  rw [hsz1] at this
  exact Nat.le_of_lt (Nat.lt_of_succ_lt this)
end
end PySem

namespace L2
open PySem PySem.Spec PyProof.Rows
section
variable {X : Cx}
/-- xs[i] as it is read in xs[i] op= e -/
def rGetL (K : PySem.W.Frag) : R2 := fun x y H Q => ∃ p xs i v, x = .ref p ∧ y = .int i ∧ SqL K H p xs ∧ 0 ≤ i ∧ xs[i.toNat]? = some v ∧ Q v H
theorem get_listA : PGet X (rGetL X.K) := by
  intro pins s σ H x y v u Q I rx ry h
  obtain ⟨p, xs, i, z, rfl, rfl, hq, h0, he, q⟩ := h
  cases rx
  obtain ⟨t, rfl⟩ := ry
  obtain ⟨its, r, pl, hz⟩ := I.list hq
  obtain ⟨w, ew, rw'⟩ := r.get he
  have hl := r.length
  have hn := line63
  have hlt : i.toNat < xs.length := (List.getElem?_eq_some_iff.mp he).1
  exact wpAny_getItem_list pl.isList h0 (by omega) (by simpa using ew) ⟨z, H, I, rw', q⟩
/-- sum(xss, zs): a list of one list and more, and a list to begin with -/
def rSumL (K : PySem.W.Frag) : List V → Hp → VK → Prop := fun vs H Q => ∃ (a z : Addr) (ls : List Addr) (xss : List (List V)) (zs : List V), vs = [V.ref a, V.ref z] ∧ H a = some (.lst (ls.map V.ref)) ∧ H z = some (.lst zs) ∧
  Paired (fun l xs => H l = some (.lst xs)) ls xss ∧ ls ≠ [] ∧ zs.length + xss.flatten.length ≤ sizeLine ∧ ∀ p, H p = none → Q (.ref p) (upd H p (.lst (zs ++ xss.flatten)))
theorem paired_at {α β : Type} {R : α → β → Prop} : ∀ {xs : List α} {ys : List β}, Paired R xs ys → ∀ (i : Nat) (x : α), xs[i]? = some x → ∃ y, ys[i]? = some y ∧ R x y
  | _, _, .nil, i, x, h => by simp at h
  | _, _, .cons r t, 0, x, h => by simp at h; subst h; exact ⟨_, rfl, r⟩
  | _, _, .cons r t, i + 1, x, h => by
    obtain ⟨y, e, q⟩ := paired_at t i x (by simpa using h)
    exact ⟨y, by simpa using e, q⟩
/-- the items of the list object at a -/
def seqAt (h : Heap) (a : Addr) : Array Value := match h.get? a with
  | some ⟨_, _, .seq xs _, _⟩ => xs
  | _ => #[]
theorem vals_cat {X : Cx} {pins : List (Addr × Obj)} {σ : St} {H : Hp} {s : Shared} (I : Inv X pins σ H s) : ∀ {ls : List Addr} {xss : List (List V)} (f : Nat → Addr) (i : Nat), Paired (fun l xs => H l = some (.lst xs)) ls xss → (∀ j a, ls[j]? = some a → f (i + j) = a) →
    Vals xss.flatten (catFrom (fun j => seqAt s.heap (f j)) i ls.length).toList
  | _, _, f, i, .nil, _ => .nil
  | _, _, f, i, .cons (a := l) (b := xs) (l₁ := ls) (l₂ := xss) r t, h => by
    obtain ⟨z, its, n, rv, hl, e⟩ := I.lstM r
    have e0 : f i = l := h 0 l rfl
    have es : seqAt s.heap (f i) = its.toArray := by
      unfold seqAt
      rw [e0, e]
    have ih := vals_cat I f (i + 1) t fun j a ha => by rw [show i + 1 + j = i + (j + 1) by omega]; exact h (j + 1) a (by simpa using ha)
    show Vals (xs ++ xss.flatten) (seqAt s.heap (f i) ++ catFrom (fun j => seqAt s.heap (f j)) (i + 1) ls.length).toList
    rw [es, Array.toList_append]
    exact rv.append ih
theorem vals_refs : ∀ {ls : List Addr} {us : List Value}, Vals (ls.map V.ref) us → us = ls.map Value.ref
  | [], _, .nil => rfl
  | l :: ls, _, .cons r t => by
    rw [vals_refs t]
    cases r
    rfl
theorem cr_sumL (hc : X.calm = true) : CallR X (.builtin "sum") (rSumL X.K) := by
  intro pins s σ H vs us Q I r h
  obtain ⟨a, z, ls, xss, zs, rfl, ha, hz, hp, hne, hsz, q⟩ := h
  obtain ⟨u1, u2, rfl, r1, r2⟩ := Vals.two r
  cases (show u1 = Value.ref a from r1)
  cases (show u2 = Value.ref z from r2)
  obtain ⟨_, its, n, rv, hl, e⟩ := I.lstM ha
  obtain ⟨_, itz, nz, rz, hlz, ez⟩ := I.lstM hz
  have ei := vals_refs rv
  subst ei
  have hlen : (ls.map Value.ref).toArray.size = ls.length := by simp
  have hcat := vals_cat I (fun j => ls.getD j 0) 0 hp (fun j b hb => by
    show ls.getD (0 + j) 0 = b
    rw [Nat.zero_add, List.getD_eq_getElem?_getD, hb]
    rfl)
  have hcl := hcat.length
  refine call_sum_lists (items := (ls.map Value.ref).toArray) (zi := itz.toArray) (fun j => ls.getD j 0) (fun j => seqAt s.heap (ls.getD j 0)) (I.ok.hd hc) e ez (fun i v hv => ?_) (fun j hj => ?_) ?_ ?_ fun h' tk p n' hk hp' hr => ?_
  · have hv' : (ls.map Value.ref)[i]? = some v := by simpa using hv
    rw [List.getElem?_map] at hv'
    obtain ⟨b, hb, rfl⟩ := Option.map_eq_some_iff.mp hv'
    rw [List.getD_eq_getElem?_getD, hb]
    rfl
  · rw [hlen] at hj
    have hb : ls[j]? = some ls[j] := List.getElem?_eq_getElem hj
    obtain ⟨ys, _, hy⟩ := paired_at hp j _ hb
    obtain ⟨_, itj, nj, _, _, ej⟩ := I.lstM hy
    refine ⟨nj, ?_⟩
    have : ls.getD j 0 = ls[j] := by rw [List.getD_eq_getElem?_getD, hb]; rfl
    rw [this, ej]
    unfold seqAt
    rw [ej]
  · rw [hlen]
    cases ls with
    | nil => exact absurd rfl hne
    | cons => simp
  · rw [hlen]
    simp only [List.size_toArray]
    have : (catFrom (fun j => seqAt s.heap (ls.getD j 0)) 0 ls.length).size = xss.flatten.length := (hcl.trans Array.length_toList).symm
    omega
  · rw [hlen] at hr
    have hv : Vals (zs ++ xss.flatten) (itz ++ (catFrom (fun j => seqAt s.heap (ls.getD j 0)) 0 ls.length).toList) := rz.append hcat
    refine ⟨.ref p, upd H p (.lst (zs ++ xss.flatten)), I.laid hk hp' ⟨by rw [List.length_append]; exact hsz, _, n', hv, ?_⟩, rfl, q p (I.hok.fresh hp')⟩
    rw [hr]
    congr 3
    apply Array.ext'
    simp
end
end L2

namespace Sw
/-! ties as (one, other, price); directed edges likewise: (a, b, c): from a one goes to b for c -/
abbrev T3 := Nat × Nat × Nat
/-- a way from v to the goal g with k steps for c -/
inductive Way (E : List T3) (g : Nat) : Nat → Nat → Nat → Prop
  | nil : Way E g g 0 0
  | cons {a b p k c : Nat} : (a, b, p) ∈ E → Way E g b k c → Way E g a (k + 1) (p + c)
abbrev Dist := List (Option Nat)
def at? (d : Dist) (v : Nat) : Option Nat := (d[v]?).getD none
/-- one relaxing -/
def relax (d : Dist) (e : T3) : Dist :=
  match at? d e.2.1 with
  | none => d
  | some y => match at? d e.1 with
    | none => d.set e.1 (some (y + e.2.2))
    | some x => if y + e.2.2 < x then d.set e.1 (some (y + e.2.2)) else d
def roundOf (L : List T3) (d : Dist) : Dist := L.foldl relax d
def start (n g : Nat) : Dist := (List.replicate n none).set g (some 0)
def rounds (L : List T3) : Nat → Dist → Dist
  | 0, d => d
  | k + 1, d => rounds L k (roundOf L d)
theorem relax_len (d : Dist) (e : T3) : (relax d e).length = d.length := by
  unfold relax
  split
  · rfl
  · split
    · simp
    · split <;> simp
theorem round_len (L : List T3) : ∀ d, (roundOf L d).length = d.length := by
  induction L with
  | nil => intro d; rfl
  | cons e L ih => intro d; show (roundOf L (relax d e)).length = _; rw [ih, relax_len]
theorem at_set (d : Dist) (v u : Nat) (x : Option Nat) (h : v < d.length) : at? (d.set v x) u = if u = v then x else at? d u := by
  unfold at?
  rw [List.getElem?_set]
  by_cases e : v = u
  · subst e; simp [h]
  · simp [e, Ne.symm e]
/-- le on Option with none the top -/
def Le (x y : Option Nat) : Prop := ∀ c, y = some c → ∃ c', x = some c' ∧ c' ≤ c
theorem Le.refl (x : Option Nat) : Le x x := fun c h => ⟨c, h, Nat.le_refl _⟩
theorem Le.trans {x y z : Option Nat} (h : Le x y) (h' : Le y z) : Le x z := fun c e => by
  obtain ⟨c1, e1, l1⟩ := h' c e
  obtain ⟨c2, e2, l2⟩ := h c1 e1
  exact ⟨c2, e2, Nat.le_trans l2 l1⟩
theorem relax_le (d : Dist) (e : T3) (hl : e.1 < d.length) (v : Nat) : Le (at? (relax d e) v) (at? d v) := by
  unfold relax
  split
  · exact Le.refl _
  · rename_i y hy
    split
    · rename_i hx
      rw [at_set _ _ _ _ hl]
      split
      · rename_i ev; subst ev; intro c hc; rw [hx] at hc; cases hc
      · exact Le.refl _
    · rename_i x hx
      split
      · rename_i lt
        rw [at_set _ _ _ _ hl]
        split
        · rename_i ev; subst ev; intro c hc; rw [hx] at hc; cases hc; exact ⟨_, rfl, Nat.le_of_lt lt⟩
        · exact Le.refl _
      · exact Le.refl _
theorem relax_does (d : Dist) (e : T3) (hl : e.1 < d.length) {y : Nat} (hy : at? d e.2.1 = some y) : Le (at? (relax d e) e.1) (some (y + e.2.2)) := by
  unfold relax
  rw [hy]
  simp only
  split
  · rw [at_set _ _ _ _ hl, if_pos rfl]; exact Le.refl _
  · rename_i x hx
    split
    · rw [at_set _ _ _ _ hl, if_pos rfl]; exact Le.refl _
    · rename_i nl
      intro c hc; cases hc; exact ⟨x, hx, by omega⟩
theorem round_le (L : List T3) : ∀ (d : Dist), (∀ e ∈ L, e.1 < d.length) → ∀ v, Le (at? (roundOf L d) v) (at? d v) := by
  induction L with
  | nil => intro d _ v; exact Le.refl _
  | cons e L ih =>
    intro d h v
    have h1 := relax_le d e (h e List.mem_cons_self) v
    have h2 := ih (relax d e) (fun e' m => by rw [relax_len]; exact h e' (List.mem_cons_of_mem _ m)) v
    exact Le.trans h2 h1
theorem round_does (L : List T3) : ∀ (d : Dist), (∀ e ∈ L, e.1 < d.length) → ∀ e ∈ L, ∀ y, at? d e.2.1 = some y → Le (at? (roundOf L d) e.1) (some (y + e.2.2)) := by
  induction L with
  | nil => intro d _ e m; cases m
  | cons e0 L ih =>
    intro d h e m y hy
    have hr : ∀ e ∈ L, e.1 < (relax d e0).length := fun e' m => by rw [relax_len]; exact h e' (List.mem_cons_of_mem _ m)
    have h1 := relax_le d e0 (h e0 List.mem_cons_self)
    rcases List.mem_cons.mp m with q | q
    · subst q
      have := relax_does d e (h e List.mem_cons_self) hy
      exact Le.trans (round_le L _ hr e.1) this
    · obtain ⟨y', e1, l1⟩ := h1 e.2.1 y hy
      obtain h2 := ih (relax d e0) hr e q y' e1
      intro c hc
      cases hc
      obtain ⟨c', e2, l2⟩ := h2 _ rfl
      exact ⟨c', e2, by omega⟩
/-- soundness -/
def Sound (E : List T3) (g : Nat) (d : Dist) : Prop := ∀ v c, at? d v = some c → ∃ k, Way E g v k c
theorem relax_sound {E : List T3} {g : Nat} {d : Dist} {e : T3} (he : e ∈ E) (hl : e.1 < d.length) (s : Sound E g d) : Sound E g (relax d e) := by
  intro v c hv
  unfold relax at hv
  split at hv
  · exact s v c hv
  · rename_i y hy
    obtain ⟨k, wk⟩ := s _ _ hy
    have ws : ∃ k, Way E g e.1 k (y + e.2.2) := ⟨k + 1, by rw [Nat.add_comm y]; exact Way.cons he wk⟩
    split at hv
    · rw [at_set _ _ _ _ hl] at hv
      split at hv
      · rename_i ev; subst ev; cases hv; exact ws
      · exact s v c hv
    · split at hv
      · rw [at_set _ _ _ _ hl] at hv
        split at hv
        · rename_i ev; subst ev; cases hv; exact ws
        · exact s v c hv
      · exact s v c hv
theorem round_sound {E : List T3} {g : Nat} (L : List T3) : ∀ (d : Dist), (∀ e ∈ L, e ∈ E) → (∀ e ∈ L, e.1 < d.length) → Sound E g d → Sound E g (roundOf L d) := by
  induction L with
  | nil => intro d _ _ s; exact s
  | cons e L ih =>
    intro d h1 h2 s
    exact ih (relax d e) (fun e' m => h1 e' (List.mem_cons_of_mem _ m)) (fun e' m => by rw [relax_len]; exact h2 e' (List.mem_cons_of_mem _ m)) (relax_sound (h1 e List.mem_cons_self) (h2 e List.mem_cons_self) s)
/-- below every way of at most k steps -/
def Below (E : List T3) (g k : Nat) (d : Dist) : Prop := ∀ v j c, j ≤ k → Way E g v j c → Le (at? d v) (some c)
theorem round_below {E : List T3} {g k : Nat} (L : List T3) (d : Dist) (h1 : ∀ e ∈ E, e ∈ L) (h2 : ∀ e ∈ L, e.1 < d.length) (b : Below E g k d) : Below E g (k + 1) (roundOf L d) := by
  intro v j c hj w
  cases w with
  | nil => exact Le.trans (round_le L d h2 _) (b _ 0 0 (Nat.zero_le _) Way.nil)
  | @cons _ u p j' c' he w' =>
    obtain ⟨y, e1, l1⟩ := b u j' c' (by omega) w' _ rfl
    obtain ⟨z, e2, l2⟩ := round_does L d h2 _ (h1 _ he) y e1 _ rfl
    intro c2 hc2
    cases hc2
    refine ⟨z, e2, ?_⟩
    simp only at l2
    omega
theorem rounds_len (L : List T3) : ∀ k d, (rounds L k d).length = d.length := by
  intro k
  induction k with
  | zero => intro d; rfl
  | succ k ih => intro d; show (rounds L k (roundOf L d)).length = _; rw [ih, round_len]
theorem rounds_ok {E : List T3} {g : Nat} (L : List T3) (h0 : ∀ e, e ∈ E ↔ e ∈ L) : ∀ (k j : Nat) (d : Dist), (∀ e ∈ L, e.1 < d.length) → Sound E g d → Below E g j d → Sound E g (rounds L k d) ∧ Below E g (j + k) (rounds L k d) := by
  intro k
  induction k with
  | zero => intro j d _ s b; exact ⟨s, b⟩
  | succ k ih =>
    intro j d h s b
    have := ih (j + 1) (roundOf L d) (fun e m => by rw [round_len]; exact h e m) (round_sound L d (fun e m => (h0 e).mpr m) h s) (round_below L d (fun e m => (h0 e).mp m) h b)
    rw [show j + (k + 1) = j + 1 + k by omega]
    exact this
theorem rounds_succ (L : List T3) : ∀ k d, rounds L (k + 1) d = roundOf L (rounds L k d) := by
  intro k
  induction k with
  | zero => intro d; rfl
  | succ k ih => intro d; show rounds L (k + 1) (roundOf L d) = _; rw [ih]; rfl
/-! a way without a house twice -/
/-- no more than n different numbers below n -/
theorem nodup_le : ∀ (n : Nat) (l : List Nat), l.Nodup → (∀ x ∈ l, x < n) → l.length ≤ n := by
  intro n
  induction n with
  | zero =>
    intro l _ h
    cases l with
    | nil => simp
    | cons a l => exact absurd (h a List.mem_cons_self) (by omega)
  | succ n ih =>
    intro l nd h
    have h1 := ih (l.erase n) (nd.erase _) (fun x m => by
      have := h x (List.mem_of_mem_erase m)
      have hne : x ≠ n := fun q => by
        subst q
        exact (List.Nodup.not_mem_erase nd) m
      omega)
    have h2 : l.length ≤ (l.erase n).length + 1 := by
      rw [List.length_erase]
      split <;> omega
    omega
/-- the houses of a way (the goal left out) -/
inductive WayL (E : List T3) (g : Nat) : Nat → List Nat → Nat → Prop
  | nil : WayL E g g [] 0
  | cons {a b p c : Nat} {l : List Nat} : (a, b, p) ∈ E → WayL E g b l c → WayL E g a (a :: l) (p + c)
theorem Way.toL {E : List T3} {g v k c : Nat} (w : Way E g v k c) : ∃ l, WayL E g v l c ∧ l.length = k := by
  induction w with
  | nil => exact ⟨[], .nil, rfl⟩
  | cons he _ ih => obtain ⟨l, w, e⟩ := ih; exact ⟨_, .cons he w, by simp [e]⟩
theorem WayL.toW {E : List T3} {g v c : Nat} {l : List Nat} (w : WayL E g v l c) : Way E g v l.length c := by
  induction w with
  | nil => exact .nil
  | cons he _ ih => exact .cons he ih
/-- from a house on the way on -/
theorem WayL.from {E : List T3} {g v c : Nat} {l : List Nat} (w : WayL E g v l c) (nd : l.Nodup) : ∀ u ∈ l, ∃ l' c', WayL E g u l' c' ∧ c' ≤ c ∧ l'.Nodup ∧ ∀ x ∈ l', x ∈ l := by
  induction w with
  | nil => intro u m; cases m
  | @cons a b p c l he w ih =>
    intro u m
    rcases List.mem_cons.mp m with q | q
    · subst q; exact ⟨_, _, .cons he w, Nat.le_refl _, nd, fun x m => m⟩
    · obtain ⟨l', c', w', le, nd', sub⟩ := ih (List.nodup_cons.mp nd).2 u q
      exact ⟨l', c', w', by omega, nd', fun x m => List.mem_cons_of_mem _ (sub x m)⟩
theorem WayL.simple {E : List T3} {g v c : Nat} {l : List Nat} (w : WayL E g v l c) : ∃ l' c', WayL E g v l' c' ∧ c' ≤ c ∧ l'.Nodup ∧ g ∉ l' := by
  induction w with
  | nil => exact ⟨[], 0, .nil, Nat.le_refl _, List.nodup_nil, by simp⟩
  | @cons a b p c l he w ih =>
    obtain ⟨l', c', w', le, nd, ng⟩ := ih
    by_cases hg : a = g
    · subst hg; exact ⟨[], 0, .nil, Nat.zero_le _, List.nodup_nil, by simp⟩
    · by_cases ha : a ∈ l'
      · obtain ⟨l2, c2, w2, le2, nd2, sub⟩ := w'.from nd a ha
        exact ⟨l2, c2, w2, by omega, nd2, fun m => ng (sub _ m)⟩
      · exact ⟨a :: l', p + c', .cons he w', by omega, List.nodup_cons.mpr ⟨ha, nd⟩, fun m => by
          rcases List.mem_cons.mp m with q | q
          · exact hg q.symm
          · exact ng q⟩
theorem WayL.lt {E : List T3} {g v c n : Nat} {l : List Nat} (w : WayL E g v l c) (hE : ∀ e ∈ E, e.1 < n) : ∀ x ∈ l, x < n := by
  induction w with
  | nil => intro x m; cases m
  | cons he _ ih =>
    intro x m
    rcases List.mem_cons.mp m with q | q
    · subst q; exact hE _ he
    · exact ih x q
theorem way_short {E : List T3} {g v k c n : Nat} (hE : ∀ e ∈ E, e.1 < n) (w : Way E g v k c) : ∃ k' c', k' ≤ n ∧ c' ≤ c ∧ Way E g v k' c' := by
  obtain ⟨l, wl, _⟩ := w.toL
  obtain ⟨l', c', w', le, nd, _⟩ := wl.simple
  exact ⟨l'.length, c', nodup_le n l' nd (w'.lt hE), le, w'.toW⟩
/-- what the list of least prices is -/
structure IsFar (E : List T3) (n g : Nat) (d : Dist) : Prop where
  len : d.length = n
  way : Sound E g d
  least : ∀ v k c, Way E g v k c → Le (at? d v) (some c)
theorem start_at (n g v : Nat) (hg : g < n) : at? (start n g) v = if v = g then some 0 else none := by
  unfold start
  rw [at_set _ _ _ _ (by simpa using hg)]
  split
  · rfl
  · unfold at?
    rw [List.getElem?_replicate]
    split <;> rfl
theorem far_is {E : List T3} {n g : Nat} (L : List T3) (h0 : ∀ e, e ∈ E ↔ e ∈ L) (hE : ∀ e ∈ E, e.1 < n) (hg : g < n) : IsFar E n g (rounds L n (start n g)) := by
  have hs : (start n g).length = n := by simp [start]
  have h := rounds_ok (E := E) (g := g) L h0 n 0 (start n g) (fun e m => by rw [hs]; exact hE e ((h0 e).mpr m))
    (fun v c h => by
      rw [start_at _ _ _ hg] at h
      split at h
      · rename_i q; subst q; cases h; exact ⟨0, .nil⟩
      · cases h)
    (fun v j c hj w => by
      have : j = 0 := by omega
      subst this
      cases w
      rw [start_at _ _ _ hg, if_pos rfl]
      exact Le.refl _)
  refine ⟨by rw [rounds_len, hs], h.1, fun v k c w => ?_⟩
  obtain ⟨k', c', hk, hc, w'⟩ := way_short hE w
  obtain ⟨z, e, l⟩ := h.2 v k' c' (by omega) w' _ rfl
  intro c2 e2
  cases e2
  exact ⟨z, e, by omega⟩
theorem far_one {E : List T3} {n g : Nat} {d d' : Dist} (h : IsFar E n g d) (h' : IsFar E n g d') : d = d' := by
  have key : ∀ v, at? d v = at? d' v := fun v => by
    cases e : at? d v with
    | none =>
      cases e' : at? d' v with
      | none => rfl
      | some c' =>
        obtain ⟨k, w⟩ := h'.way _ _ e'
        obtain ⟨z, ez, _⟩ := h.least _ _ _ w _ rfl
        rw [e] at ez; cases ez
    | some c =>
      obtain ⟨k, w⟩ := h.way _ _ e
      obtain ⟨z, ez, lz⟩ := h'.least _ _ _ w _ rfl
      obtain ⟨k2, w2⟩ := h'.way _ _ ez
      obtain ⟨z2, ez2, lz2⟩ := h.least _ _ _ w2 _ rfl
      rw [e] at ez2; cases ez2
      rw [ez]
      congr 1
      omega
  refine List.ext_getElem? fun i => ?_
  by_cases hi : i < n
  · have a1 : i < d.length := by rw [h.len]; exact hi
    have a2 : i < d'.length := by rw [h'.len]; exact hi
    have := key i
    unfold at? at this
    rw [List.getElem?_eq_getElem a1, List.getElem?_eq_getElem a2] at this ⊢
    simpa using this
  · rw [List.getElem?_eq_none (by rw [h.len]; omega), List.getElem?_eq_none (by rw [h'.len]; omega)]
theorem far_cong {E E' : List T3} {n g : Nat} {d : Dist} (he : ∀ e, e ∈ E ↔ e ∈ E') (h : IsFar E n g d) : IsFar E' n g d := by
  have tr : ∀ {A B : List T3}, (∀ e, e ∈ A → e ∈ B) → ∀ {v k c}, Way A g v k c → Way B g v k c := by
    intro A B hs v k c w
    induction w with
    | nil => exact .nil
    | cons m _ ih => exact .cons (hs _ m) ih
  exact ⟨h.len, fun v c e => by obtain ⟨k, w⟩ := h.way v c e; exact ⟨k, tr (fun e m => (he e).mp m) w⟩, fun v k c w => h.least v k c (tr (fun e m => (he e).mpr m) w)⟩
end Sw
namespace Sw
/-- u is a next house of h: just so much nearer -/
def Cand (E : List T3) (d : Dist) (h u : Nat) : Prop := ∃ c y, (h, u, c) ∈ E ∧ at? d u = some y ∧ at? d h = some (y + c)
def IsNext (E : List T3) (d : Dist) (g h : Nat) : Option Nat → Prop
  | none => h = g ∨ at? d h = none
  | some u => h ≠ g ∧ at? d h ≠ none ∧ Cand E d h u ∧ ∀ v, Cand E d h v → u ≤ v
theorem next_one {E : List T3} {d : Dist} {g h : Nat} : ∀ {x y : Option Nat}, IsNext E d g h x → IsNext E d g h y → x = y
  | none, none, _, _ => rfl
  | none, some u, h1, h2 => by
    rcases h1 with q | q
    · exact absurd q h2.1
    · exact absurd q h2.2.1
  | some u, none, h1, h2 => by
    rcases h2 with q | q
    · exact absurd q h1.1
    · exact absurd q h1.2.1
  | some u, some v, h1, h2 => by
    have a := h1.2.2.2 v h2.2.2.1
    have b := h2.2.2.2 u h1.2.2.1
    rw [Nat.le_antisymm a b]
theorem cand_cong {E E' : List T3} (he : ∀ e, e ∈ E ↔ e ∈ E') {d : Dist} {h u : Nat} : Cand E d h u ↔ Cand E' d h u :=
  ⟨fun ⟨c, y, a, b⟩ => ⟨c, y, (he _).mp a, b⟩, fun ⟨c, y, a, b⟩ => ⟨c, y, (he _).mpr a, b⟩⟩
theorem next_cong {E E' : List T3} (he : ∀ e, e ∈ E ↔ e ∈ E') {d : Dist} {g h : Nat} : ∀ {x : Option Nat}, IsNext E d g h x → IsNext E' d g h x
  | none, a => a
  | some u, a => ⟨a.1, a.2.1, (cand_cong he).mp a.2.2.1, fun v hv => a.2.2.2 v ((cand_cong he).mpr hv)⟩
theorem far_goal {E : List T3} {n g : Nat} {d : Dist} (f : IsFar E n g d) : at? d g = some 0 := by
  obtain ⟨c, e, l⟩ := f.least g 0 0 .nil 0 rfl
  rw [e]
  congr 1
  omega
theorem cand_ex {E : List T3} {n g h c : Nat} {d : Dist} (f : IsFar E n g d) (hg : h ≠ g) (hc : at? d h = some c) : ∃ u, Cand E d h u := by
  obtain ⟨k, w⟩ := f.way h c hc
  cases w with
  | nil => exact absurd rfl hg
  | @cons _ u p k' c' he w' =>
    obtain ⟨y, ey, ly⟩ := f.least u k' c' w' _ rfl
    obtain ⟨k2, w2⟩ := f.way u y ey
    obtain ⟨z, ez, lz⟩ := f.least h (k2 + 1) (p + y) (.cons he w2) _ rfl
    rw [hc] at ez
    cases ez
    refine ⟨u, p, y, he, ey, ?_⟩
    rw [hc]
    congr 1
    omega
theorem near_some {E : List T3} {n g h u c : Nat} {d : Dist} (f : IsFar E n g d) (hs : ∀ a b c, (a, b, c) ∈ E → (b, a, c) ∈ E) (he : (h, u, c) ∈ E) (hh : at? d h ≠ none) : ∃ y, at? d u = some y := by
  cases e : at? d h with
  | none => exact absurd e hh
  | some z =>
    obtain ⟨k, w⟩ := f.way h z e
    obtain ⟨y, ey, _⟩ := f.least u (k + 1) (c + z) (.cons (hs _ _ _ he) w) _ rfl
    exact ⟨y, ey⟩
/-- whether a neighbour (house, price) is just so much nearer -/
def test (d : Dist) (h : Nat) (q : Nat × Nat) : Bool := match at? d q.1 with
  | some y => decide (at? d h = some (y + q.2))
  | none => false
def candL (d : Dist) (h : Nat) (L : List (Nat × Nat)) : List Nat := (L.filter (test d h)).map (·.1)
theorem candL_mem {E : List T3} {d : Dist} {h : Nat} {L : List (Nat × Nat)} (hL : ∀ u c, (u, c) ∈ L ↔ (h, u, c) ∈ E) (u : Nat) : u ∈ candL d h L ↔ Cand E d h u := by
  unfold candL
  rw [List.mem_map]
  constructor
  · rintro ⟨q, hq, rfl⟩
    obtain ⟨m, t⟩ := List.mem_filter.mp hq
    unfold test at t
    cases e : at? d q.1 with
    | none => rw [e] at t; cases t
    | some y =>
      rw [e] at t
      exact ⟨q.2, y, (hL _ _).mp m, e, of_decide_eq_true t⟩
  · rintro ⟨c, y, m, e, t⟩
    refine ⟨(u, c), List.mem_filter.mpr ⟨(hL _ _).mpr m, ?_⟩, rfl⟩
    unfold test
    rw [e]
    exact decide_eq_true t
def nbr (ts : List T3) (h : Nat) : List (Nat × Nat) := ts.flatMap fun e => (if e.1 = h then [(e.2.1, e.2.2)] else []) ++ (if e.2.1 = h then [(e.1, e.2.2)] else [])
theorem nbr_mem (ts : List T3) (h u c : Nat) : (u, c) ∈ nbr ts h ↔ ((h, u, c) ∈ ts ∨ (u, h, c) ∈ ts) := by
  unfold nbr
  rw [List.mem_flatMap]
  constructor
  · rintro ⟨⟨a, b, p⟩, m, q⟩
    rcases List.mem_append.mp q with q | q
    · split at q
      · rename_i e; simp at q e; obtain ⟨rfl, rfl⟩ := q; subst e; exact .inl m
      · cases q
    · split at q
      · rename_i e; simp at q e; obtain ⟨rfl, rfl⟩ := q; subst e; exact .inr m
      · cases q
  · rintro (m | m)
    · exact ⟨_, m, by simp⟩
    · exact ⟨_, m, by simp⟩
theorem nbr_snoc (ts : List T3) (e : T3) (h : Nat) : nbr (ts ++ [e]) h = nbr ts h ++ ((if e.1 = h then [(e.2.1, e.2.2)] else []) ++ (if e.2.1 = h then [(e.1, e.2.2)] else [])) := by
  unfold nbr
  rw [List.flatMap_append]
  simp
theorem nbr_len (ts : List T3) (h : Nat) : (nbr ts h).length ≤ 2 * ts.length := by
  induction ts with
  | nil => simp [nbr]
  | cons e ts ih =>
    have : nbr (e :: ts) h = ((if e.1 = h then [(e.2.1, e.2.2)] else []) ++ (if e.2.1 = h then [(e.1, e.2.2)] else [])) ++ nbr ts h := rfl
    rw [this, List.length_append, List.length_append]
    have h1 : (if e.1 = h then [(e.2.1, e.2.2)] else []).length ≤ 1 := by split <;> simp
    have h2 : (if e.2.1 = h then [(e.1, e.2.2)] else []).length ≤ 1 := by split <;> simp
    simp only [List.length_cons]
    omega
theorem candL_snoc (d : Dist) (h : Nat) (L : List (Nat × Nat)) (q : Nat × Nat) : candL d h (L ++ [q]) = candL d h L ++ (if test d h q = true then [q.1] else []) := by
  unfold candL
  rw [List.filter_append, List.map_append]
  congr 1
  simp only [List.filter_cons, List.filter_nil]
  split <;> rfl
theorem candL_len (d : Dist) (h : Nat) (L : List (Nat × Nat)) : (candL d h L).length ≤ L.length := by
  unfold candL
  rw [List.length_map]
  exact List.length_filter_le _ _
end Sw
namespace Sw
def fl1 (ts : List T3) (h : Nat) : List (Nat × Nat) := ts.flatMap fun e => if e.1 = h then [(e.2.1, e.2.2)] else []
def fl2 (ts : List T3) (h : Nat) : List (Nat × Nat) := ts.flatMap fun e => if e.2.1 = h then [(e.1, e.2.2)] else []
theorem fl1_snoc (ts : List T3) (e : T3) (h : Nat) : fl1 (ts ++ [e]) h = fl1 ts h ++ (if e.1 = h then [(e.2.1, e.2.2)] else []) := by
  unfold fl1; rw [List.flatMap_append]; simp
theorem fl2_snoc (ts : List T3) (e : T3) (h : Nat) : fl2 (ts ++ [e]) h = fl2 ts h ++ (if e.2.1 = h then [(e.1, e.2.2)] else []) := by
  unfold fl2; rw [List.flatMap_append]; simp
theorem fl_mem (ts : List T3) (h u c : Nat) : (u, c) ∈ fl1 ts h ++ fl2 ts h ↔ ((h, u, c) ∈ ts ∨ (u, h, c) ∈ ts) := by
  rw [List.mem_append]
  unfold fl1 fl2
  rw [List.mem_flatMap, List.mem_flatMap]
  constructor
  · rintro (⟨⟨a, b, p⟩, m, q⟩ | ⟨⟨a, b, p⟩, m, q⟩)
    · split at q
      · rename_i e; simp at q e; obtain ⟨rfl, rfl⟩ := q; subst e; exact .inl m
      · cases q
    · split at q
      · rename_i e; simp at q e; obtain ⟨rfl, rfl⟩ := q; subst e; exact .inr m
      · cases q
  · rintro (m | m)
    · exact .inl ⟨_, m, by simp⟩
    · exact .inr ⟨_, m, by simp⟩
theorem fl1_len (ts : List T3) (h : Nat) : (fl1 ts h).length ≤ ts.length := by
  induction ts with
  | nil => simp [fl1]
  | cons e ts ih =>
    have : fl1 (e :: ts) h = (if e.1 = h then [(e.2.1, e.2.2)] else []) ++ fl1 ts h := rfl
    rw [this, List.length_append]
    have h1 : (if e.1 = h then [(e.2.1, e.2.2)] else []).length ≤ 1 := by split <;> simp
    simp only [List.length_cons]
    omega
theorem fl2_len (ts : List T3) (h : Nat) : (fl2 ts h).length ≤ ts.length := by
  induction ts with
  | nil => simp [fl2]
  | cons e ts ih =>
    have : fl2 (e :: ts) h = (if e.2.1 = h then [(e.1, e.2.2)] else []) ++ fl2 ts h := rfl
    rw [this, List.length_append]
    have h1 : (if e.2.1 = h then [(e.1, e.2.2)] else []).length ≤ 1 := by split <;> simp
    simp only [List.length_cons]
    omega
end Sw
namespace Sw
/-- the told way, house by house -/
inductive WayTo (E : List T3) (d : Dist) (g : Nat) : Nat → List Nat → Prop
  | here : WayTo E d g g [g]
  | step {h u : Nat} {l : List Nat} : IsNext E d g h (some u) → WayTo E d g u l → WayTo E d g h (h :: l)
theorem wayto_one {E : List T3} {d : Dist} {g h : Nat} {l l' : List Nat} (a : WayTo E d g h l) (b : WayTo E d g h l') : l = l' := by
  induction a generalizing l' with
  | here =>
    cases b with
    | here => rfl
    | step i _ => exact absurd rfl i.1
  | step i _ ih =>
    cases b with
    | here => exact absurd rfl i.1
    | step j r =>
      have e := next_one i j
      cases e
      rw [ih r]
theorem way_cost {E : List T3} {g v k c : Nat} (h : ∀ e ∈ E, e.2.2 ≤ 9) (w : Way E g v k c) : c ≤ 9 * k := by
  induction w with
  | nil => exact Nat.le_refl _
  | cons he _ ih =>
    have := h _ he
    simp only at this
    omega
theorem far_small {E : List T3} {n g v c : Nat} {d : Dist} (f : IsFar E n g d) (hE : ∀ e ∈ E, e.1 < n) (h9 : ∀ e ∈ E, e.2.2 ≤ 9) (e : at? d v = some c) : c ≤ 9 * n := by
  obtain ⟨k, w⟩ := f.way v c e
  obtain ⟨k', c', hk, hc, w'⟩ := way_short hE w
  obtain ⟨z, ez, lz⟩ := f.least v k' c' w' _ rfl
  rw [e] at ez
  cases ez
  have := way_cost h9 w'
  have : 9 * k' ≤ 9 * n := Nat.mul_le_mul_left 9 hk
  omega
/-- all houses that a list of prices reaches, rising -/
def lotOf (n : Nat) (d : Dist) : List Nat := (List.range n).filter fun h => (at? d h).isSome
end Sw

namespace K
open PySem PySem.Spec PyProof.Rows L2
/-- all but p stands as it stood -/
def But (p : Addr) (H H' : Hp) : Prop := ∀ b o, H b = some o → b ≠ p → H' b = some o
theorem But.refl (p : Addr) (H : Hp) : But p H H := fun _ _ e _ => e
theorem But.trans {p : Addr} {H H1 H2 : Hp} (a : But p H H1) (b : But p H1 H2) : But p H H2 := fun c o e hc => b c o (a c o e hc) hc
theorem But.of_same {p : Addr} {H H' : Hp} (s : Same H H') : But p H H' := fun b o e _ => s b o e
theorem But.put {p : Addr} {H : Hp} {o : HO} : But p H (upd H p o) := fun b u e hb => by rw [upd_ne hb]; exact e
theorem same_upd {H : Hp} {p : Addr} {o : HO} (h : H p = none) : Same H (upd H p o) := fun b x e => by
  rw [upd_ne (ne_of_none e h)]
  exact e
/-- the box of the draws at p, its list of cells at q -/
def BoxAt (H : Hp) (p q : Addr) : Prop := ∃ (ns : List Int) (i t s : Int), H p = some (.lst [.ref q, .int i, .int t, .int s]) ∧ H q = some (.lst (ns.map V.int)) ∧ 0 ≤ i ∧ i ≤ ns.length ∧ 0 ≤ s ∧ s < 2147483549 ∧ ns.length ≤ 63
theorem BoxAt.ne {H : Hp} {p q : Addr} (h : BoxAt H p q) : p ≠ q := by
  obtain ⟨ns, i, t, s, h1, h2, _⟩ := h
  refine ne_of h1 h2 fun e => ?_
  cases ns with
  | nil => cases e
  | cons n ns => injection e with e; injection e with e1 e2; cases e1
theorem BoxAt.at {H H' : Hp} {p q : Addr} (h : BoxAt H p q) (h1 : ∀ o, H p = some o → H' p = some o) (h2 : ∀ o, H q = some o → H' q = some o) : BoxAt H' p q := by
  obtain ⟨ns, i, t, s, e1, e2, r⟩ := h
  exact ⟨ns, i, t, s, h1 _ e1, h2 _ e2, r⟩
theorem BoxAt.same {H H' : Hp} {p q : Addr} (h : BoxAt H p q) (s : Same H H') : BoxAt H' p q := h.at (fun o e => s _ o e) (fun o e => s _ o e)
theorem BoxAt.p_some {H : Hp} {p q : Addr} (h : BoxAt H p q) : ∃ o, H p = some o := by
  obtain ⟨ns, i, t, s, e1, e2, r⟩ := h
  exact ⟨_, e1⟩
theorem BoxAt.q_some {H : Hp} {p q : Addr} (h : BoxAt H p q) : ∃ o, H q = some o := by
  obtain ⟨ns, i, t, s, e1, e2, r⟩ := h
  exact ⟨_, e2⟩
/-- another object than the box's own two is written -/
theorem BoxAt.put {H : Hp} {p q l : Addr} {o : HO} (h : BoxAt H p q) (hp : l ≠ p) (hq : l ≠ q) : BoxAt (upd H l o) p q :=
  h.at (fun o e => by rw [upd_ne (Ne.symm hp)]; exact e) (fun o e => by rw [upd_ne (Ne.symm hq)]; exact e)
theorem BoxAt.putN {H : Hp} {p q l : Addr} {o : HO} (h : BoxAt H p q) (hl : H l = none) : BoxAt (upd H l o) p q := h.same (same_upd hl)
theorem fmod_le {a n : Int} (hn : 0 < n) : 0 ≤ a.fmod n ∧ a.fmod n < n := by
  rw [Int.fmod_eq_emod_of_nonneg _ (Int.le_of_lt hn)]
  exact ⟨Int.emod_nonneg _ (by omega), Int.emod_lt_of_pos _ hn⟩
/-- _law_box(script) -/
def spBox (K : PySem.W.Frag) : Sp := fun vs H Q _ => ∃ (a : Addr) (ns : List Int), vs = [.ref a] ∧ SqL K H a (ns.map V.int) ∧ ns.length ≤ 63 ∧ ∀ (p q : Addr) (H' : Hp), H p = none → H q = none → BoxAt H' p q → Same H H' → Q (.ref p) H'
/-- _law_take(box, sides): a number below sides; the box is a box again -/
def spTake : Sp := fun vs H Q _ => ∃ (p q : Addr) (n : Int), vs = [.ref p, .int n] ∧ BoxAt H p q ∧ 0 < n ∧ n < 1073741824 ∧ ∀ (r : Int) (H' : Hp), 0 ≤ r → r < n → BoxAt H' p q → But p H H' → Q (.int r) H'
theorem atI0 {α : Type} {xs : List α} {i : Int} {v : α} (h0 : 0 ≤ i) (h : xs[i.toNat]? = some v) : atI xs i = some v := by
  have := atI_nat (j := i.toNat) h
  rwa [Int.toNat_of_nonneg h0] at this
end K
namespace K
open PySem PySem.Spec PyProof.Rows L2
/-- None, bools, ints, texts -/
def flat : V → Bool
  | .non | .bl _ | .int _ | .str _ => true
  | _ => false
/-- the same data, of less than n levels -/
def Eqv : Nat → Hp → V → V → Prop
  | 0, _, _, _ => False
  | n + 1, H, x, y => (x = y ∧ flat x = true) ∨ ∃ (a b : Addr) (xs ys : List V), x = .ref a ∧ y = .ref b ∧ ((H a = some (.lst xs) ∧ H b = some (.lst ys)) ∨ (H a = some (.tup xs) ∧ H b = some (.tup ys))) ∧ xs.length = ys.length ∧ xs.length ≤ 1000 ∧
      ∀ (i : Nat) (u v : V), xs[i]? = some u → ys[i]? = some v → Eqv n H u v
theorem Eqv.same {H H' : Hp} (s : Same H H') : ∀ {n : Nat} {x y : V}, Eqv n H x y → Eqv n H' x y
  | n + 1, x, y, h => by
    rcases h with h | ⟨a, b, xs, ys, e1, e2, h, hl, hz, hi⟩
    · exact .inl h
    · refine .inr ⟨a, b, xs, ys, e1, e2, ?_, hl, hz, fun i u v hu hv => (hi i u v hu hv).same s⟩
      rcases h with ⟨h1, h2⟩ | ⟨h1, h2⟩
      · exact .inl ⟨s _ _ h1, s _ _ h2⟩
      · exact .inr ⟨s _ _ h1, s _ _ h2⟩
def spSame (n : Nat) : Sp := fun vs H Q _ => ∃ (x y : V), vs = [x, y] ∧ Eqv n H x y ∧ ∀ H', Same H H' → Q (.bl true) H'
theorem kit2 {K : PySem.W.Frag} {t T U : String} {b c : Bool} (h : kitB t T = some b) (h2 : kitB t U = some c) : PySem.W.kitAny K (.type t) [.type T, .type U] = some (b || c) := by
  refine kitAny_cons (kit_ty h) (fun e => ?_) (fun e => by rw [e]; rfl)
  subst e
  refine kitAny_cons (kit_ty h2) (fun e => ?_) (fun e => by rw [e]; rfl)
  subst e
  exact kitAny_nil
theorem walk_zipTT {K : PySem.W.Frag} {a b : Addr} {xs ys : List V} {n : Nat} (hn : n = min xs.length ys.length) : Walk (RZ.ItzT K a b) n (fun H => SqT K H a xs ∧ SqT K H b ys) (YPair (fun i => xs[i]?) (fun i => ys[i]?)) := by
  subst hn
  refine ⟨fun i _ hi q => ?_, fun _ q => ⟨xs, ys, q.1, q.2, by omega⟩, fun i H v H' _ q y => ?_⟩
  · have h1 : i < xs.length := by omega
    have h2 : i < ys.length := by omega
    exact ⟨xs, ys, xs[i], ys[i], q.1, q.2, by simp [h1], by simp [h2]⟩
  · obtain ⟨T, x, z, h1, h2, h3, h4, h5⟩ := y
    exact ⟨T, x, z, h1, h2, h3, h4 xs q.1, h5 ys q.2⟩
theorem fnok_never {P : Program} {w : World} {K : PySem.W.Frag} {mg : Str → Option Value} {base : Heap} {f : Addr} {fd : FuncData} {ps : List Str} {sp : Sp} {k : Nat} (h : ∀ vs H Q E, ¬ sp vs H Q E) : FnOk P w K mg base CX0 k f fd ps sp :=
  ⟨fun vs H Q E q => (h _ _ _ _ q).elim, fun A outer s H args us vs Q E hr he hb hv hs => (h _ _ _ _ hs).elim⟩
end K
namespace K
open PySem PySem.Spec PyProof.Rows L2
open Sw (T3 Dist at? relax roundOf rounds)
/-- a tie as it stands in a tuple -/
def tv (e : T3) : List V := [.int (e.1 : Nat), .int (e.2.1 : Nat), .int (e.2.2 : Nat)]
/-- a list of ties -/
def TiesAt (H : Hp) (t : Addr) (ts : List T3) : Prop := ∃ as : List Addr, H t = some (.lst (as.map V.ref)) ∧ Paired (fun a e => H a = some (.tup (tv e))) as ts
theorem paired_mono {α β : Type} {R R' : α → β → Prop} (h : ∀ a b, R a b → R' a b) : ∀ {xs : List α} {ys : List β}, Paired R xs ys → Paired R' xs ys
  | _, _, .nil => .nil
  | _, _, .cons r t => .cons (h _ _ r) (paired_mono h t)
theorem paired_len {α β : Type} {R : α → β → Prop} : ∀ {xs : List α} {ys : List β}, Paired R xs ys → xs.length = ys.length
  | _, _, .nil => rfl
  | _, _, .cons r t => by simp [paired_len t]
theorem TiesAt.same {H H' : Hp} {t : Addr} {ts : List T3} (h : TiesAt H t ts) (s : Same H H') : TiesAt H' t ts := by
  obtain ⟨as, h1, h2⟩ := h
  exact ⟨as, s _ _ h1, paired_mono (fun a e q => s _ _ q) h2⟩
/-- a price or None -/
def ov : Option Nat → V
  | none => .non
  | some n => .int (n : Nat)
/-- a list of prices stands at p -/
def DistAt (H : Hp) (p : Addr) (d : Dist) : Prop := H p = some (.lst (d.map ov))
theorem at_of {d : Dist} {v : Nat} (h : v < d.length) : (d.map ov)[v]? = some (ov (at? d v)) := by
  rw [List.getElem?_map, List.getElem?_eq_getElem h]
  unfold at?
  rw [List.getElem?_eq_getElem h]
  rfl
theorem set_ov (d : Dist) (v : Nat) (x : Option Nat) : (d.map ov).set v (ov x) = (d.set v x).map ov := by rw [List.map_set]
theorem ixN_nat {n j : Nat} (h : j < n) : ixN n (j : Int) = some j := by
  unfold ixN
  rw [if_pos (by omega), if_pos (by omega), Int.toNat_natCast]
/-- the ties both ways about, tie by tie -/
def both (ts : List T3) : List T3 := ts.flatMap fun e => [e, (e.2.1, e.1, e.2.2)]
theorem both_mem (ts : List T3) (e : T3) : e ∈ both ts ↔ (e ∈ ts ∨ (e.2.1, e.1, e.2.2) ∈ ts) := by
  unfold both
  rw [List.mem_flatMap]
  constructor
  · rintro ⟨x, hx, m⟩
    simp only [List.mem_cons, List.not_mem_nil, or_false] at m
    rcases m with q | q
    · exact .inl (q ▸ hx)
    · subst q; exact .inr hx
  · rintro (h | h)
    · exact ⟨e, h, by simp⟩
    · exact ⟨_, h, by simp⟩
/-- the least prices, as they are reckoned tie by tie -/
def farD (n : Nat) (ts : List T3) (g : Nat) : Dist := rounds (both ts) n (Sw.start n g)
/-- the ties lie below n -/
def Fits (n : Nat) (ts : List T3) : Prop := ∀ e ∈ ts, e.1 < n ∧ e.2.1 < n
theorem both_lt {n : Nat} {ts : List T3} (h : Fits n ts) : ∀ e ∈ both ts, e.1 < n ∧ e.2.1 < n := fun e m => by
  rcases (both_mem ts e).mp m with q | q
  · exact h e q
  · have := h _ q
    exact ⟨this.2, this.1⟩
theorem farD_is {n g : Nat} {ts : List T3} (h : Fits n ts) (hg : g < n) : Sw.IsFar (both ts) n g (farD n ts g) := Sw.far_is (both ts) (fun _ => Iff.rfl) (fun e m => (both_lt h e m).1) hg
def spCheck : Sp := fun vs H Q _ => ∃ (n g : Nat), vs = [.int (n : Nat), .int (g : Nat)] ∧ g < n ∧ Q .non H
def spCheap : Sp := fun vs H Q _ => ∃ (p : Addr) (d : Dist) (a b c : Nat), vs = [.ref p, .int (a : Nat), .int (b : Nat), .int (c : Nat)] ∧ DistAt H p d ∧ a < d.length ∧ b < d.length ∧ ∀ H', DistAt H' p (relax d (a, b, c)) → But p H H' → Q .non H'
def spFar : Sp := fun vs H Q _ => ∃ (n g : Nat) (t : Addr) (ts : List T3), vs = [.int (n : Nat), .ref t, .int (g : Nat)] ∧ g < n ∧ n ≤ 1000 ∧ TiesAt H t ts ∧ Fits n ts ∧ ∀ p H', H p = none → Same H H' → DistAt H' p (farD n ts g) → Q (.ref p) H'
end K
namespace K
open PySem PySem.Spec PyProof.Rows L2
open Sw (T3 Dist at? relax roundOf rounds)
/-- a row of pairs of houses, below n, the lesser one first -/
def PairsV (H : Hp) (n : Nat) (xs : List V) : Prop := ∃ (as : List Addr) (ps : List (Nat × Nat)), xs = as.map V.ref ∧ Paired (fun a p => H a = some (.tup [.int (p.1 : Nat), .int (p.2 : Nat)])) as ps ∧ ∀ p ∈ ps, p.1 < p.2 ∧ p.2 < n
theorem PairsV.at {H H' : Hp} {n : Nat} {xs : List V} (h : PairsV H n xs) (k : ∀ a ys, H a = some (.tup ys) → H' a = some (.tup ys)) : PairsV H' n xs := by
  obtain ⟨as, ps, e, h1, h2⟩ := h
  exact ⟨as, ps, e, paired_mono (fun a p q => k _ _ q) h1, h2⟩
theorem PairsV.nil {H : Hp} {n : Nat} : PairsV H n [] := ⟨[], [], rfl, .nil, fun p m => by cases m⟩
theorem paired_append {α β : Type} {R : α → β → Prop} : ∀ {xs xs' : List α} {ys ys' : List β}, Paired R xs ys → Paired R xs' ys' → Paired R (xs ++ xs') (ys ++ ys')
  | _, _, _, _, .nil, s => s
  | _, _, _, _, .cons r t, s => .cons r (paired_append t s)
theorem PairsV.append {H : Hp} {n : Nat} {xs ys : List V} (h : PairsV H n xs) (h' : PairsV H n ys) : PairsV H n (xs ++ ys) := by
  obtain ⟨as, ps, rfl, h1, h2⟩ := h
  obtain ⟨as', ps', rfl, h1', h2'⟩ := h'
  refine ⟨as ++ as', ps ++ ps', by rw [List.map_append], paired_append h1 h1', fun p m => ?_⟩
  rcases List.mem_append.mp m with q | q
  · exact h2 p q
  · exact h2' p q
theorem PairsV.one {H : Hp} {n i j : Nat} {a : Addr} (h : H a = some (.tup [.int (i : Nat), .int (j : Nat)])) (h1 : i < j) (h2 : j < n) : PairsV H n [.ref a] :=
  ⟨[a], [(i, j)], rfl, .cons h .nil, fun p m => by simp at m; subst m; exact ⟨h1, h2⟩⟩
theorem PairsV.flat {H : Hp} {n : Nat} : ∀ {xss : List (List V)}, (∀ xs ∈ xss, PairsV H n xs) → PairsV H n xss.flatten
  | [], _ => PairsV.nil
  | xs :: xss, h => (h xs List.mem_cons_self).append (PairsV.flat fun ys m => h ys (List.mem_cons_of_mem _ m))
theorem flat_len {α : Type} {n : Nat} : ∀ {xss : List (List α)}, (∀ xs ∈ xss, xs.length ≤ n) → xss.flatten.length ≤ xss.length * n
  | [], _ => by simp
  | xs :: xss, h => by
    have h1 := h xs List.mem_cons_self
    have h2 := flat_len (xss := xss) fun ys m => h ys (List.mem_cons_of_mem _ m)
    rw [List.flatten_cons, List.length_append, List.length_cons, Nat.succ_mul]
    omega
/-- good ties below n -/
def Good (n : Nat) (ts : List T3) : Prop := ∀ e ∈ ts, e.1 < e.2.1 ∧ e.2.1 < n ∧ 1 ≤ e.2.2 ∧ e.2.2 ≤ 9
theorem Good.fits {n : Nat} {ts : List T3} (h : Good n ts) : Fits n ts := fun e m => by have := h e m; omega
def spPairs : Sp := fun vs H Q _ => ∃ n : Nat, vs = [.int (n : Nat)] ∧ 0 < n ∧ n ≤ 8 ∧ ∀ (p : Addr) (H' : Hp) (xs : List V), H p = none → Same H H' → H' p = some (.lst xs) → PairsV H' n xs → xs.length ≤ 64 → Q (.ref p) H'
def spShuf : Sp := fun vs H Q _ => ∃ (p q t : Addr) (xs : List V), vs = [.ref p, .ref t] ∧ BoxAt H p q ∧ t ≠ p ∧ H t = some (.lst xs) ∧ xs.length ≤ 1000 ∧ ∀ (r : Addr) (H' : Hp) (ys : List V), H r = none → BoxAt H' p q → But p H H' → H' r = some (.lst ys) → ys.Perm xs → Q (.ref r) H'
def spSome : Sp := fun vs H Q _ => ∃ (p q : Addr) (n : Nat) (o : Int), vs = [.ref p, .int (n : Nat), .int o] ∧ BoxAt H p q ∧ 0 < n ∧ n ≤ 8 ∧ ∀ (r : Addr) (H' : Hp) (ts : List T3), H r = none → BoxAt H' p q → But p H H' → TiesAt H' r ts → Good n ts → ts.length ≤ 14 → Q (.ref r) H'
end K
namespace K
open PySem PySem.Spec PyProof.Rows L2
open Sw (T3 Dist at? relax roundOf rounds)
def tupData (e : T3) : PyData := .tuple [.int (e.1 : Nat), .int (e.2.1 : Nat), .int (e.2.2 : Nat)]
def tieData (ts : List T3) : PyData := .list (ts.map tupData)
theorem dp_ties {K : PySem.W.Frag} {H : Hp} {t : Addr} {ts : List T3} (h : TiesAt H t ts) : Dp K H (.ref t) (tieData ts) := by
  obtain ⟨as, h1, h2⟩ := h
  refine .lst (SqL.of h1) ?_
  clear h1
  induction h2 with
  | nil => exact .nil
  | cons r _ ih => exact .cons (.tup (SqT.of r) (.cons (.int _) (.cons (.int _) (.cons (.int _) .nil)))) ih
theorem lay_ties (ts : List T3) : PyData.canLayAll0 (ts.map tupData) = true := by
  induction ts with
  | nil => simp [PyData.canLayAll0]
  | cons e ts ih => simp [PyData.canLayAll0, PyData.canLay0, tupData, ih]
theorem depth_ties (ts : List T3) : PyData.depthAll (ts.map tupData) ≤ 2 := by
  induction ts with
  | nil => simp [PyData.depthAll]
  | cons e ts ih =>
    have h1 : (tupData e).depth ≤ 2 := by simp [tupData, PyData.depth, PyData.depthAll]
    simp only [List.map_cons, PyData.depthAll]
    omega
theorem shaped_ties (ts : List T3) : SeqAt.shaped (tieData ts) = true := by
  unfold SeqAt.shaped tieData
  have h1 := lay_ties ts
  have h2 := depth_ties ts
  have h3 : (PyData.list (ts.map tupData)).canLay0 = true := by simpa [PyData.canLay0] using h1
  have h4 : (PyData.list (ts.map tupData)).depth ≤ 64 := by
    have e : (PyData.list (ts.map tupData)).depth = PyData.depthAll (ts.map tupData) + 1 := by simp [PyData.depth, Nat.add_comm]
    omega
  rw [h3, decide_eq_true h4]
  rfl
/-- the law's own going round -/
def swp (e : T3) : T3 := (e.2.1, e.1, e.2.2)
def lfarD (n : Nat) (ts : List T3) (g : Nat) : Dist := rounds (ts ++ ts.map swp) n (Sw.start n g)
theorem lfar_mem (ts : List T3) (e : T3) : e ∈ both ts ↔ e ∈ ts ++ ts.map swp := by
  rw [both_mem, List.mem_append, List.mem_map]
  constructor
  · rintro (h | h)
    · exact .inl h
    · exact .inr ⟨_, h, rfl⟩
  · rintro (h | ⟨x, hx, rfl⟩)
    · exact .inl h
    · exact .inr hx
theorem lfarD_is {n g : Nat} {ts : List T3} (h : Fits n ts) (hg : g < n) : Sw.IsFar (both ts) n g (lfarD n ts g) := Sw.far_is _ (lfar_mem ts) (fun e m => (both_lt h e m).1) hg
theorem far_lfar {n g : Nat} {ts : List T3} (h : Fits n ts) (hg : g < n) : lfarD n ts g = farD n ts g := Sw.far_one (lfarD_is h hg) (farD_is h hg)
def spLFar : Sp := fun vs H Q _ => ∃ (n g : Nat) (t : Addr) (ts : List T3), vs = [.int (n : Nat), .ref t, .int (g : Nat)] ∧ g < n ∧ n ≤ 1000 ∧ TiesAt H t ts ∧ ts.length ≤ 400 ∧ Fits n ts ∧ ∀ p H', H p = none → Same H H' → DistAt H' p (lfarD n ts g) → Q (.ref p) H'
theorem ov_flat (x : Option Nat) : flat (ov x) = true := by cases x <;> rfl
theorem eqv_dist {H : Hp} {a b : Addr} {d : Dist} {m : Nat} (h1 : DistAt H a d) (h2 : DistAt H b d) (hl : d.length ≤ 1000) : Eqv (m + 2) H (.ref a) (.ref b) := by
  refine .inr ⟨a, b, _, _, rfl, rfl, .inl ⟨h1, h2⟩, rfl, by rw [List.length_map]; exact hl, fun i u v hu hv => ?_⟩
  rw [hu] at hv
  cases hv
  rw [List.getElem?_map] at hu
  obtain ⟨x, _, rfl⟩ := Option.map_eq_some_iff.mp hu
  exact .inl ⟨rfl, ov_flat x⟩
/-- the law: a list of at most 63 ints is handed in, True comes out -/
def spLaw (K : PySem.W.Frag) : Sp := fun vs H Q _ => ∃ (a : Addr) (ns : List Int), vs = [.ref a] ∧ SqL K H a (ns.map V.int) ∧ ns.length ≤ 63 ∧ ∀ H', Q (.bl true) H'
theorem paired_pick {α β : Type} {R : α → β → Prop} : ∀ {xs : List α} {ys : List β}, Paired R xs ys → ∀ xs' : List α, (∀ x ∈ xs', x ∈ xs) → ∃ ys' : List β, Paired R xs' ys' ∧ ∀ y ∈ ys', y ∈ ys
  | xs, ys, h, [], _ => ⟨[], .nil, fun y m => by cases m⟩
  | xs, ys, h, x :: xs', hs => by
    obtain ⟨i, hi, e⟩ := List.getElem_of_mem (hs x List.mem_cons_self)
    obtain ⟨y, ey, r⟩ := paired_at h i x (by rw [List.getElem?_eq_getElem hi, e])
    obtain ⟨ys', h1, h2⟩ := paired_pick h xs' fun z m => hs z (List.mem_cons_of_mem _ m)
    refine ⟨y :: ys', .cons r h1, fun z m => ?_⟩
    rcases List.mem_cons.mp m with q | q
    · subst q; exact List.mem_of_getElem? ey
    · exact h2 z q
theorem perm_refs {as : List Addr} {ys : List V} (h : ys.Perm (as.map V.ref)) : ∃ bs : List Addr, ys = bs.map V.ref ∧ bs.Perm as := by
  have hm : ∀ y ∈ ys, ∃ b, y = V.ref b := fun y m => by
    obtain ⟨b, _, e⟩ := List.mem_map.mp (h.mem_iff.mp m)
    exact ⟨b, e.symm⟩
  have key : ∀ zs : List V, (∀ y ∈ zs, ∃ b, y = V.ref b) → ∃ bs : List Addr, zs = bs.map V.ref := by
    intro zs
    induction zs with
    | nil => intro _; exact ⟨[], rfl⟩
    | cons z zs ih =>
      intro hz
      obtain ⟨b, e⟩ := hz z List.mem_cons_self
      obtain ⟨bs, e2⟩ := ih fun y m => hz y (List.mem_cons_of_mem _ m)
      exact ⟨b :: bs, by rw [e, e2]; rfl⟩
  obtain ⟨bs, e⟩ := key ys hm
  refine ⟨bs, e, ?_⟩
  rw [e] at h
  have h2 := h.map (fun v => match v with | V.ref a => a | _ => 0)
  rw [List.map_map, List.map_map] at h2
  have e1 : ∀ l : List Addr, l.map ((fun v => match v with | V.ref a => a | _ => 0) ∘ V.ref) = l := fun l => by
    induction l with
    | nil => rfl
    | cons x l ih => rw [List.map_cons, ih]; rfl
  rw [e1, e1] at h2
  exact h2
end K

namespace K
open PySem PySem.Spec PyProof.Rows L2
/-- a def that can be called: its promise, its name, its place, how its arguments bind -/
structure Cal (P : Program) (w : World) (K : PySem.W.Frag) (mg : Str → Option Value) (base : Heap) (k : Nat) (x : Str) (f : Addr) (fd : FuncData) (ps : List Str) (sp : Sp) : Prop where
  ok : FnOk P w K mg base CX0 k f fd ps sp
  g : mg x = some (.ref f)
  kp : PySem.W.keepIn K (.ref f) = true
  b : Binds K fd ps []
/-- the built-in names that the text reads stand for the built-in things -/
structure BT (mg : Str → Option Value) : Prop where
  len : mg "len" = none
  range : mg "range" = none
  list : mg "list" = none
  tuple : mg "tuple" = none
  isinstance : mg "isinstance" = none
  bool : mg "bool" = none
  int : mg "int" = none
  str : mg "str" = none
  all : mg "all" = none
  zip : mg "zip" = none
  sum : mg "sum" = none
  min : mg "min" = none
  sorted : mg "sorted" = none
  abs : mg "abs" = none
  enumerate : mg "enumerate" = none
end K

namespace K
open PySem PySem.Spec PyProof.Rows L2
open Sw (T3 Dist at? relax roundOf rounds)
theorem rep_non (n : Nat) : (List.replicate n [V.non]).flatten = (List.replicate n (none : Option Nat)).map ov := by
  induction n with
  | zero => rfl
  | succ n ih => rw [List.replicate_succ, List.replicate_succ, List.flatten_cons, ih]; rfl
theorem take_succ_of {α : Type} {l : List α} {i : Nat} {x : α} (h : l[i]? = some x) : l.take (i + 1) = l.take i ++ [x] := by
  rw [List.take_add_one, h]; rfl
theorem both_snoc (ts : List T3) (e : T3) : both (ts ++ [e]) = both ts ++ [e, (e.2.1, e.1, e.2.2)] := by
  unfold both
  rw [List.flatMap_append]
  simp
theorem roundOf_append (L M : List T3) (d : Dist) : roundOf (L ++ M) d = roundOf M (roundOf L d) := List.foldl_append
theorem map_ref_at {as : List Addr} {i : Nat} {y : V} (h : (as.map V.ref)[i]? = some y) : ∃ a, as[i]? = some a ∧ y = .ref a := by
  rw [List.getElem?_map] at h
  obtain ⟨a, e, q⟩ := Option.map_eq_some_iff.mp h
  exact ⟨a, e, q.symm⟩
end K
namespace K
open PySem PySem.Spec PyProof.Rows L2
open Sw (T3 Dist at? relax roundOf rounds IsNext Cand IsFar nbr candL)
/-- a row of neighbours (house, price) -/
def NbrAt (H : Hp) (p : Addr) (L : List (Nat × Nat)) : Prop := ∃ as : List Addr, H p = some (.lst (as.map V.ref)) ∧ Paired (fun a q => H a = some (.tup [.int (q.1 : Nat), .int (q.2 : Nat)])) as L
theorem NbrAt.same {H H' : Hp} {p : Addr} {L : List (Nat × Nat)} (h : NbrAt H p L) (s : Same H H') : NbrAt H' p L := by
  obtain ⟨as, h1, h2⟩ := h
  exact ⟨as, s _ _ h1, paired_mono (fun a q e => s _ _ e) h2⟩
theorem nbr_both (ts : List T3) (h u c : Nat) : (u, c) ∈ nbr ts h ↔ (h, u, c) ∈ both ts := by
  rw [Sw.nbr_mem, both_mem]
theorem both_sym (ts : List T3) : ∀ a b c, (a, b, c) ∈ both ts → (b, a, c) ∈ both ts := fun a b c m => by
  rw [both_mem] at m ⊢
  exact m.symm
def spNbr : Sp := fun vs H Q _ => ∃ (t : Addr) (ts : List T3) (h : Nat), vs = [.ref t, .int (h : Nat)] ∧ TiesAt H t ts ∧ ts.length ≤ 400 ∧ ∀ p H', H p = none → Same H H' → NbrAt H' p (nbr ts h) → Q (.ref p) H'
def spNextH : Sp := fun vs H Q _ => ∃ (p t : Addr) (d : Dist) (ts : List T3) (n g h : Nat), vs = [.ref p, .ref t, .int (g : Nat), .int (h : Nat)] ∧ DistAt H p d ∧ TiesAt H t ts ∧ ts.length ≤ 400 ∧ Fits n ts ∧ IsFar (both ts) n g d ∧ h < n ∧
  ∀ x H', IsNext (both ts) d g h x → Same H H' → Q (ov x) H'
/-- the list of next houses -/
def NextsAt (H : Hp) (p : Addr) (E : List T3) (d : Dist) (n g : Nat) : Prop := ∃ xs : List (Option Nat), H p = some (.lst (xs.map ov)) ∧ xs.length = n ∧ ∀ h < n, IsNext E d g h (at? xs h)
def spNexts : Sp := fun vs H Q _ => ∃ (n g : Nat) (t : Addr) (ts : List T3), vs = [.int (n : Nat), .ref t, .int (g : Nat)] ∧ g < n ∧ n ≤ 1000 ∧ TiesAt H t ts ∧ ts.length ≤ 400 ∧ Fits n ts ∧ ∀ p H', H p = none → Same H H' → NextsAt H' p (both ts) (farD n ts g) n g → Q (.ref p) H'
def spLNext : Sp := fun vs H Q _ => ∃ (n g h : Nat) (t : Addr) (ts : List T3), vs = [.int (n : Nat), .ref t, .int (h : Nat), .int (g : Nat)] ∧ g < n ∧ h < n ∧ n ≤ 1000 ∧ TiesAt H t ts ∧ ts.length ≤ 400 ∧ Good n ts ∧
  ∀ x H', IsNext (both ts) (farD n ts g) g h x → Same H H' → Q (ov x) H'
theorem nexts_eqv {H : Hp} {a b : Addr} {E : List T3} {d : Dist} {n g m : Nat} (h1 : NextsAt H a E d n g) (h2 : NextsAt H b E d n g) (hn : n ≤ 1000) : Eqv (m + 2) H (.ref a) (.ref b) := by
  obtain ⟨xs, e1, l1, n1⟩ := h1
  obtain ⟨ys, e2, l2, n2⟩ := h2
  have e : xs = ys := by
    refine List.ext_getElem? fun i => ?_
    by_cases hi : i < n
    · have := Sw.next_one (n1 i hi) (n2 i hi)
      unfold at? at this
      rw [List.getElem?_eq_getElem (by omega), List.getElem?_eq_getElem (by omega)] at this ⊢
      simpa using this
    · rw [List.getElem?_eq_none (by omega), List.getElem?_eq_none (by omega)]
  subst e
  exact eqv_dist e1 e2 (by omega)
theorem NextsAt.same {H H' : Hp} {p : Addr} {E : List T3} {d : Dist} {n g : Nat} (h : NextsAt H p E d n g) (s : Same H H') : NextsAt H' p E d n g := by
  obtain ⟨xs, h1, h2⟩ := h
  exact ⟨xs, s _ _ h1, h2⟩
end K
namespace K
open PySem PySem.Spec PyProof.Rows L2
open Sw (T3 Dist at? relax roundOf rounds IsNext Cand IsFar nbr candL)
theorem tv_inj {e u : T3} (h : tv e = tv u) : e = u := by
  obtain ⟨a, b, c⟩ := e
  obtain ⟨a', b', c'⟩ := u
  unfold tv at h
  injection h with h1 h
  injection h with h2 h
  injection h with h3 _
  injection h1 with h1
  injection h2 with h2
  injection h3 with h3
  have h1 : (a : Int) = a' := h1
  have h2 : (b : Int) = b' := h2
  have h3 : (c : Int) = c' := h3
  have q1 : a = a' := by omega
  have q2 : b = b' := by omega
  have q3 : c = c' := by omega
  rw [q1, q2, q3]
theorem ties_mem {H : Hp} {as : List Addr} {ts : List T3} (h : Paired (fun a e => H a = some (.tup (tv e))) as ts) (e : T3) : e ∈ ts ↔ ∃ a ∈ as, H a = some (.tup (tv e)) := by
  induction h with
  | nil => exact ⟨fun m => (by cases m), fun ⟨a, m, _⟩ => (by cases m)⟩
  | @cons a u as ts r _ ih =>
    constructor
    · intro m
      rcases List.mem_cons.mp m with q | q
      · subst q; exact ⟨a, List.mem_cons_self, r⟩
      · obtain ⟨b, m2, e2⟩ := ih.mp q
        exact ⟨b, List.mem_cons_of_mem _ m2, e2⟩
    · rintro ⟨b, m, e2⟩
      rcases List.mem_cons.mp m with q | q
      · subst q
        rw [r] at e2
        injection e2 with e2
        injection e2 with e2
        rw [tv_inj e2]
        exact List.mem_cons_self
      · exact List.mem_cons_of_mem _ (ih.mpr ⟨b, q, e2⟩)
theorem both_iff {ts us : List T3} (h : ∀ e, (e ∈ us ∨ swp e ∈ us) ↔ (e ∈ ts ∨ swp e ∈ ts)) (e : T3) : e ∈ both us ↔ e ∈ both ts := by
  rw [both_mem, both_mem]
  exact h e
theorem swapped_iff {us ts : List T3} (h : Paired (fun u e => u = e ∨ u = swp e) us ts) (e : T3) : (e ∈ us ∨ swp e ∈ us) ↔ (e ∈ ts ∨ swp e ∈ ts) := by
  induction h with
  | nil => exact ⟨fun m => m, fun m => m⟩
  | @cons u x us ts r _ ih =>
    have key : (e = u ∨ swp e = u) ↔ (e = x ∨ swp e = x) := by
      rcases r with q | q
      · rw [q]
      · subst q
        obtain ⟨a, b, c⟩ := e
        obtain ⟨a', b', c'⟩ := x
        unfold swp
        simp only [Prod.mk.injEq]
        constructor
        · rintro (⟨h1, h2, h3⟩ | ⟨h1, h2, h3⟩)
          · exact .inr ⟨h2, h1, h3⟩
          · exact .inl ⟨h2, h1, h3⟩
        · rintro (⟨h1, h2, h3⟩ | ⟨h1, h2, h3⟩)
          · exact .inr ⟨h2, h1, h3⟩
          · exact .inl ⟨h2, h1, h3⟩
    simp only [List.mem_cons]
    constructor
    · rintro ((q | q) | (q | q))
      · rcases key.mp (.inl q) with z | z
        · exact .inl (.inl z)
        · exact .inr (.inl z)
      · rcases ih.mp (.inl q) with z | z
        · exact .inl (.inr z)
        · exact .inr (.inr z)
      · rcases key.mp (.inr q) with z | z
        · exact .inl (.inl z)
        · exact .inr (.inl z)
      · rcases ih.mp (.inr q) with z | z
        · exact .inl (.inr z)
        · exact .inr (.inr z)
    · rintro ((q | q) | (q | q))
      · rcases key.mpr (.inl q) with z | z
        · exact .inl (.inl z)
        · exact .inr (.inl z)
      · rcases ih.mpr (.inl q) with z | z
        · exact .inl (.inr z)
        · exact .inr (.inr z)
      · rcases key.mpr (.inr q) with z | z
        · exact .inl (.inl z)
        · exact .inr (.inl z)
      · rcases ih.mpr (.inr q) with z | z
        · exact .inl (.inr z)
        · exact .inr (.inr z)
theorem farD_cong {n g : Nat} {ts us : List T3} (h1 : Fits n ts) (h2 : Fits n us) (hg : g < n) (h : ∀ e, e ∈ both us ↔ e ∈ both ts) : farD n us g = farD n ts g :=
  Sw.far_one (Sw.far_cong h (farD_is h2 hg)) (farD_is h1 hg)
theorem NextsAt.cong {H : Hp} {p : Addr} {E E' : List T3} {d : Dist} {n g : Nat} (he : ∀ e, e ∈ E ↔ e ∈ E') (h : NextsAt H p E d n g) : NextsAt H p E' d n g := by
  obtain ⟨xs, h1, h2, h3⟩ := h
  exact ⟨xs, h1, h2, fun i hi => Sw.next_cong he (h3 i hi)⟩
theorem fits_of {n : Nat} {ts us : List T3} (h : Fits n ts) (he : ∀ e, e ∈ both us ↔ e ∈ both ts) : Fits n us := fun e m => both_lt h e ((he e).mp ((both_mem us e).mpr (.inl m)))
end K

namespace PySem
namespace F
theorem args_minD (a d : Value) : argsOk "min" ⟨[a], [(Str.ofString "default", d)]⟩ := by unfold argsOk; kernel_rfl
end F
section
variable {prog : Program} {w : World} {A : Around} {E : Value → Shared → Prop} {s : Shared}
/-- a built-in's call with keywords, where the built-in goes on as another one -/
theorem call_tree_kw {id : String} {b : Builtin} {args : List Value} {kw : List (Str × Value)} {Q : Value → Shared → Prop} (hk : builtinKind id = none) (hp : plainId id = true) (hb : entryFor table id = some b) (ha : argsOk id ⟨args, kw⟩)
    (hc : wpAny (model prog w) A.in1 (b ⟨args, kw⟩) (fun fin s' => match fin with
      | .done f => (match (Except.ok f : Result) with | .ok (.ret v) => Q v s' | .ok _ => False | .error e => E e s')
      | .again c' => c'.quiet = true ∧ codeAny (model prog w) A c' (fun r s' => match r with | .ok (.ret v) => Q v s' | .ok _ => False | .error e => E e s') s') E s) : wpAny (model prog w) A (call (.builtin id) args kw) Q E s := by
  refine wpAny_call (codeAny_call_builtin hp hb ?_)
  simp only [checkBuiltinCall, hk]
  cases hsig : Manifest.signature? id with
  | none => exact wpAny_pure hc
  | some sig =>
    have hz : Bind.checkArgs id sig ⟨args, kw⟩ = pure () := by simpa only [argsOk, hsig] using ha
    show wpAny _ A.in1 (Bind.checkArgs id sig ⟨args, kw⟩) _ _ s
    rw [hz]; exact wpAny_pure hc
end
section
variable {prog : Program} {w : World} {A : Around} {R : Result → Shared → Prop} {I : Addr} {fp wr : List Addr} {n : Nat} {P : Nat → Value → Prop} {St : Nat → Heap → Prop}
theorem minD_name : (toString "min" ++ toString ".loop" : String) = "min.loop" := by decide
theorem minD_loop (d : Value) (W : Walks prog w A.in1 I fp wr n P St) (bt : Nat → Nat → Bool) (hcmp : CmpOf prog w A.in1 .Lt P bt) (S : Addr) (hSf : S ∉ fp) :
    ∀ (k j : Nat) (s : Shared) (vb : Value) (c : Nat), n - (j + 1) = k → j + 1 ≤ n → St (j + 1) s.heap → P (argBest bt j) vb → s.heap.get? S = some { cls := .type "list", dict := none, data := .seq #[vb, vb] c, slots := #[] } →
    (∀ v h' tk, P (argBest bt (n - 1)) v → (∀ b o, b ∉ wr → b ≠ S → s.heap.get? b = some o → h'.get? b = some o) → R (.ok (.ret v)) { s with heap := h', toks := tk }) → codeAny (model prog w) A (.builtin "min.loop" ⟨[.ref I, .none, .ref S], [(Str.ofString "default", d)]⟩) R s := by
  have nS : S ∉ wr := fun h => hSf (W.sub _ h)
  intro k
  induction k with
  | zero =>
    intro j s vb c hk hj st pb e0 hR
    have hin : j + 1 = n := by omega
    refine codeAny_builtin F.entry_min_loop ?_
    rw [Around.under_plainId F.plain_min_loop _]
    show wpAny _ A.in1 (seqItems? (.ref S) >>= _) _ _ s
    refine wpAny_bind (wpAny_seqItems e0 rfl ?_)
    show wpAny _ A.in1 (tryCatch (pyNext (.ref I)) _ >>= _) _ _ s
    refine wpAny_bind (wpAny_tryCatch (W.done s _ _ (hin ▸ st) fun h' tk keep => ?_))
    have e1 := keep S _ nS e0
    show wpAny _ A.in1 (updateSeq S (fun _ => #[]) >>= _) _ _ _
    refine wpAny_bind (wpAny_updateSeq e1 rfl (wpAny_bind (wpAny_letGo (wpAny_pure ?_))))
    exact hR vb _ tk (by rw [← hin]; exact pb) fun b o hbw hbS e => (Heap.get?_update_other _ _ (Ne.symm hbS)).trans (keep b o hbw e)
  | succ k ih =>
    intro j s vb c hk hj st pb e0 hR
    have hlt : j + 1 < n := by omega
    refine codeAny_builtin F.entry_min_loop ?_
    rw [Around.under_plainId F.plain_min_loop _]
    show wpAny _ A.in1 (seqItems? (.ref S) >>= _) _ _ s
    refine wpAny_bind (wpAny_seqItems e0 rfl ?_)
    show wpAny _ A.in1 (tryCatch (pyNext (.ref I)) _ >>= _) _ _ s
    refine wpAny_bind (wpAny_tryCatch (W.item (j + 1) s _ _ hlt st fun v h' tk pv st' keep => ?_))
    have e1 := keep S _ nS e0
    show wpAny _ A.in1 (tryCatch (holding [v, v] (richCompare .Lt v vb >>= _)) _ >>= _) _ _ _
    refine wpAny_bind (wpAny_tryCatch (wpAny_holding (wpAny_bind (hcmp (j + 1) (argBest bt j) v vb _ _ _ pv pb ?_))))
    refine wpAny_bind (wpAny_holding (wpAny_truthy_bool (wpAny_bind (wpAny_letGo (wpAny_pure ?_)))))
    cases hb : bt (j + 1) (argBest bt j) with
    | true =>
      simp only [if_true]
      refine wpAny_bind (wpAny_updateSeq e1 rfl (wpAny_bind (wpAny_letGo ?_)))
      rw [minD_name]
      refine wpAny_pure ⟨plainId_quiet F.plain_min_loop _, ih (j + 1) _ v _ (by omega) hlt (W.frame _ _ _ st' fun b hbf o e => (Heap.get?_update_other _ _ (fun h : S = b => hSf (by rw [h]; exact hbf))).trans e) (by simp only [argBest, hb, if_true]; exact pv) (Heap.get?_update_self _ e1 rfl) fun v' h2 tk2 pv' keep2 => ?_⟩
      exact hR v' h2 tk2 pv' fun b o hbw hbS e => keep2 b o hbw hbS ((Heap.get?_update_other _ _ (Ne.symm hbS)).trans (keep b o hbw e))
    | false =>
      simp only [Bool.false_eq_true, if_false]
      refine wpAny_bind (wpAny_letGo ?_)
      rw [minD_name]
      refine wpAny_pure ⟨plainId_quiet F.plain_min_loop _, ih (j + 1) _ vb c (by omega) hlt st' (by simp only [argBest, hb, Bool.false_eq_true, if_false]; exact pb) e1 fun v' h2 tk2 pv' keep2 => ?_⟩
      exact hR v' h2 tk2 pv' fun b o hbw hbS e => keep2 b o hbw hbS (keep b o hbw e)
theorem minD_first (d : Value) (W : Walks prog w A.in1 I fp wr n P St) (bt : Nat → Nat → Bool) (hcmp : CmpOf prog w A.in1 .Lt P bt) (S : Addr) (hSf : S ∉ fp) {s : Shared} {c : Nat} (st : St 0 s.heap) (e0 : s.heap.get? S = some { cls := .type "list", dict := none, data := .seq #[] c, slots := #[] })
    (h0 : n = 0 → ∀ h' tk, (∀ b o, b ∉ wr → b ≠ S → s.heap.get? b = some o → h'.get? b = some o) → R (.ok (.ret d)) { s with heap := h', toks := tk })
    (hR : 0 < n → ∀ v h' tk, P (argBest bt (n - 1)) v → (∀ b o, b ∉ wr → b ≠ S → s.heap.get? b = some o → h'.get? b = some o) → R (.ok (.ret v)) { s with heap := h', toks := tk }) :
    codeAny (model prog w) A (.builtin "min.loop" ⟨[.ref I, .none, .ref S], [(Str.ofString "default", d)]⟩) R s := by
  have nS : S ∉ wr := fun h => hSf (W.sub _ h)
  refine codeAny_builtin F.entry_min_loop ?_
  rw [Around.under_plainId F.plain_min_loop _]
  show wpAny _ A.in1 (seqItems? (.ref S) >>= _) _ _ s
  refine wpAny_bind (wpAny_seqItems e0 rfl ?_)
  show wpAny _ A.in1 (tryCatch (pyNext (.ref I)) _ >>= _) _ _ s
  by_cases hn : 0 < n
  · refine wpAny_bind (wpAny_tryCatch (W.item 0 s _ _ hn st fun v h' tk pv st' keep => ?_))
    have e1 := keep S _ nS e0
    show wpAny _ A.in1 (updateSeq S (fun _ => #[v, v]) >>= _) _ _ _
    refine wpAny_bind (wpAny_updateSeq e1 rfl ?_)
    rw [minD_name]
    refine wpAny_pure ⟨plainId_quiet F.plain_min_loop _, minD_loop d W bt hcmp S hSf _ 0 _ v _ rfl hn (W.frame _ _ _ st' fun b hbf o e => (Heap.get?_update_other _ _ (fun h : S = b => hSf (by rw [h]; exact hbf))).trans e) pv (Heap.get?_update_self _ e1 rfl) fun v' h2 tk2 pv' keep2 => ?_⟩
    exact hR hn v' h2 tk2 pv' fun b o hbw hbS e => keep2 b o hbw hbS ((Heap.get?_update_other _ _ (Ne.symm hbS)).trans (keep b o hbw e))
  · have hz : n = 0 := by omega
    refine wpAny_bind (wpAny_tryCatch (W.done s _ _ (hz ▸ st) fun h' tk keep => ?_))
    refine wpAny_bind (wpAny_rule (wpAny_pure ?_))
    exact h0 hz h' tk fun b o hbw _ e => keep b o hbw e
end
section
variable {prog : Program} {w : World} {A : Around} {E : Value → Shared → Prop} {s : Shared}
theorem call_minD {x d : Value} {Q : Value → Shared → Prop}
    (h : wpAny (model prog w) A.in1 (pyIter x) (fun it s₂ => ∃ I fp wr n P St bt, it = .ref I ∧ Walks prog w A.in1 I fp wr n P St ∧ St 0 s₂.heap ∧ (∀ b ∈ fp, b < s₂.heap.objs.size) ∧ CmpOf prog w A.in1 .Lt P bt ∧
      (n = 0 → ∀ h' tk, (∀ b o, b ∉ wr → s₂.heap.get? b = some o → h'.get? b = some o) → Q d { s₂ with heap := h', toks := tk }) ∧
      (0 < n → ∀ v h' tk, P (argBest bt (n - 1)) v → (∀ b o, b ∉ wr → s₂.heap.get? b = some o → h'.get? b = some o) → Q v { s₂ with heap := h', toks := tk })) E s) :
    wpAny (model prog w) A (call (.builtin "min") [x] [(Str.ofString "default", d)]) Q E s := by
  refine call_tree_kw F.kind_min F.plain_min F.entry_min (F.args_minD _ _) ?_
  show wpAny _ A.in1 (Builtin.Builtins.bindParams "min" ["key", "default"] 0 ⟨[], [(Str.ofString "default", d)]⟩ >>= _) _ _ s
  refine wpAny_bind (wpAny_of_eq (show Builtin.Builtins.bindParams "min" ["key", "default"] 0 ⟨[], [(Str.ofString "default", d)]⟩ = pure [none, some d] from rfl) ?_)
  refine wpAny_bind (wpAny_pure (wpAny_bind (wpAny_mono h (fun it s₂ h₂ => ?_) fun _ _ e => e)))
  obtain ⟨I, fp, wr, n, P, St, bt, rfl, W, hst, hfp, hcmp, hQ0, hQ⟩ := h₂
  refine wpAny_bind (wpAny_newObj_type ?_)
  have nS : s₂.heap.objs.size ∉ fp := fun hm => Nat.lt_irrefl _ (hfp _ hm)
  rw [minD_name]
  refine wpAny_pure ⟨plainId_quiet F.plain_min_loop _, minD_first d W bt hcmp s₂.heap.objs.size nS (W.frame _ _ _ hst fun b _ o e => Heap.get?_push_of_some _ e) (Heap.get?_push_size _ rfl) (fun hz h' tk keep => ?_) (fun hn v h' tk pv keep => ?_)⟩
  · exact hQ0 hz h' tk fun b o hbw e => keep b o hbw (Nat.ne_of_lt (Heap.lt_size e)) (Heap.get?_push_of_some _ e)
  · exact hQ hn v h' tk pv fun b o hbw e => keep b o hbw (Nat.ne_of_lt (Heap.lt_size e)) (Heap.get?_push_of_some _ e)
end
end PySem
namespace L2
open PySem PySem.Spec PyProof.Rows
section
variable {X : Cx}
/-- min(xs, default=d) of a list of ints -/
def rMinD (K : PySem.W.Frag) : List V → List V → Hp → VK → Prop := fun vs zs H Q => ∃ (a : Addr) (ns : List Int) (d : V), vs = [V.ref a] ∧ zs = [d] ∧ SqL K H a (ns.map V.int) ∧ (ns = [] → Q d H) ∧ ∀ m, m ∈ ns → (∀ y, y ∈ ns → m ≤ y) → Q (.int m) H
theorem cr_minD (hc : X.calm = true) : CallRK X (.builtin "min") ["default"] (rMinD X.K) := by
  intro pins s σ H vs zs us ws Q I r r2 h
  obtain ⟨a, ns, d, rfl, rfl, hs, q0, q⟩ := h
  obtain ⟨its, rv, hl, _⟩ := I.list hs
  rw [Vals.ref1 r]
  cases r2 with
  | @cons _ u _ _ rd rn =>
  cases rn
  have hi := rv.ints
  have hlen := hi.length
  have hat : ∀ (i : Nat) (v : Value), its.toArray[i]? = some v → ∃ t, v = .int (ns.getD i 0) t := fun i v hv => by
    have hv' : its[i]? = some v := by simpa using hv
    have hlt : i < its.length := (List.getElem?_eq_some_iff.mp hv').1
    obtain ⟨w, hw, rw'⟩ := rv.get (i := i) (x := .int (ns.getD i 0)) (by
      rw [List.getElem?_map, List.getD_eq_getElem?_getD, List.getElem?_eq_getElem (by omega : i < ns.length)]
      rfl)
    rw [hv'] at hw
    cases hw
    exact rw'
  show wpAny _ _ (call (.builtin "min") [.ref a] [(Str.ofString "default", u)]) _ _ _
  refine call_minD (iter_any hl.isList fun s₂ e2 st hne => ?_)
  subst e2
  refine ⟨_, _, _, _, _, _, _, rfl, Walks.list (A := X.A.in1) (I.ok.hd hc) _ a hne its.toArray, st, ?_, CmpOf.ints_lt (fun i => ns.getD i 0) hat, fun hz h' tk hk => ?_, fun hn v h' tk hP hk => ?_⟩
  · intro b hb
    have hsz := Heap.size_push s.heap { cls := .type "list_iterator", data := .fields #[.ref a, .int 0 0] }
    show b < (s.heap.push _).objs.size
    rw [hsz]
    rcases List.mem_cons.mp hb with e1 | hb
    · rw [e1]; exact Nat.lt_succ_self _
    · rw [List.mem_singleton.mp hb]
      obtain ⟨_, e, _⟩ := hl.isList
      exact Nat.lt_succ_of_lt (Heap.lt_size e)
  · refine ⟨d, H, I.kept fun b o eo => hk b o (fun hmem => ?_) (Heap.get?_push_of_some _ eo), rd, q0 ?_⟩
    · rw [List.mem_singleton] at hmem
      exact absurd (hmem ▸ Heap.lt_size eo) (Nat.lt_irrefl _)
    · rw [List.size_toArray] at hz
      cases ns with
      | nil => rfl
      | cons => simp at hlen; omega
  · obtain ⟨t, rfl⟩ := hat _ _ hP
    obtain ⟨h1, h2⟩ := argBest_lt (fun i => ns.getD i 0) (its.toArray.size - 1)
    rw [List.size_toArray] at hn h1 h2 ⊢
    refine ⟨.int _, H, I.kept fun b o eo => hk b o (fun hmem => ?_) (Heap.get?_push_of_some _ eo), ⟨t, rfl⟩, q _ ?_ fun y hy => ?_⟩
    · rw [List.mem_singleton] at hmem
      exact absurd (hmem ▸ Heap.lt_size eo) (Nat.lt_irrefl _)
    · have hlt : argBest (fun i j => decide (ns.getD i 0 < ns.getD j 0)) (its.length - 1) < ns.length := by omega
      rw [List.getD_eq_getElem?_getD, List.getElem?_eq_getElem hlt]
      exact List.getElem_mem hlt
    · obtain ⟨j, hj, rfl⟩ := List.getElem_of_mem hy
      have := h2 j (by omega)
      rw [List.getD_eq_getElem?_getD (i := j), List.getElem?_eq_getElem hj] at this
      exact this
end
end L2

namespace PySem
open Sem
/-- the text of a list, whatever is under way -/
theorem list_repr_any {M : Model} {A : Around} {E : Value → Shared → Prop} {s : Shared} {Q : Fin → Shared → Prop} {a : Addr} {o : Obj} {x : Value} {l : List Value} {n b : Nat} (hget : s.heap.get? a = some o) (hd : o.data = .seq (x :: l).toArray n)
    (h1 : ∀ u tk, Q (.done (.ret (.str "[...]" u))) { s with toks := tk }) (h2 : wpAny M A (do again (.builtin "list.__repr__.loop" ⟨[.ref a, rawInt 0, ← newList [], rawInt b], []⟩)) Q E s) : wpAny M A (Builtin.listReprAt b ⟨[.ref a], []⟩) Q E s := by
  intro Γ p hΓ
  have k2 := h2 Γ p hΓ
  unfold Builtin.listReprAt
  simp [slotArgs, Builtin.List.listItems, seqItems?, wp_load_of (h := hget), hd, stack]
  show wp M Γ (if (Γ.below.any _) = true then _ else _) _ _ p s
  split
  · simp [rule, retStr, ret]
    exact h1 _ _
  · exact k2
section
variable {prog : Program} {w : World} {A : Around} {E : Value → Shared → Prop} {s : Shared}
theorem fmt_list_repr {a : Addr} {o : Obj} {l : List Value} {n : Nat} {ts : List Str} {Q : Value → Shared → Prop} (ha : s.heap.get? a = some o) (hc : o.cls = .type "list") (hd : o.data = .seq l.toArray n) (hlen : ts.length = l.toArray.size)
    (hT : ∀ (i : Nat) (y : Value), l.toArray[i]? = some y → ∃ t, ts[i]? = some t ∧ ReprIs prog w y t) (hsz : (listText ts).length ≤ sizeLine)
    (h : ∀ (m : Str) (h' : Heap) (u tk : Tok), m.length ≤ (listText ts).length + 5 → (∀ b o, s.heap.get? b = some o → h'.get? b = some o) → Q (.str m u) { s with heap := h', toks := tk }) : wpAny (model prog w) A (call (.builtin "list.__repr__") [.ref a]) Q E s := by
  have hTy : s.TypeIs (.ref a) "list" := ⟨o, ha, hc⟩
  cases l with
  | nil => exact call_list_repr_empty hTy ha hd (h "[]" s.heap _ _ (Nat.le_trans (by decide +kernel : ("[]" : Str).length ≤ 5) (Nat.le_add_left _ _)) fun _ _ e => e)
  | cons x l =>
    refine wpAny_call (codeAny_call_builtin F.slot_list_repr.plain F.entry_list_repr (F.slot_list_repr.check _ _ _ _ _ _ _ _ hTy (F.args_list_repr_1 _) ?_))
    refine list_repr_any (b := 0) ha hd (fun u tk => ?_) ?_
    · exact h "[...]" s.heap u tk (Nat.le_trans (by decide +kernel : ("[...]" : Str).length ≤ 5) (Nat.le_add_left _ _)) fun _ _ e => e
    · refine wpAny_bind (m := newList []) (wpAny_newObj_type ?_)
      refine wpAny_pure ⟨F.quiet_list_repr_loop _, ?_⟩
      refine codeAny_list_repr_start (P := s.heap.objs.size) (Nat.ne_of_lt (Heap.lt_size ha)) hlen hT (Heap.get?_push_of_some _ ha) hd (Heap.get?_push_size _ rfl) (fun h' u tk hk => ?_) (by omega)
      exact h (listText ts) h' u tk (Nat.le_add_right _ _) fun b o e => hk b o (Nat.ne_of_lt (Heap.lt_size e)) (Heap.get?_push_of_some _ e)
theorem fmt_list {a : Addr} {o : Obj} {l : List Value} {n : Nat} {ts : List Str} {Q : Value → Shared → Prop} (hu : A.units + 2 < cLine) (ha : s.heap.get? a = some o) (hc : o.cls = .type "list") (hd : o.data = .seq l.toArray n) (hlen : ts.length = l.toArray.size)
    (hT : ∀ (i : Nat) (y : Value), l.toArray[i]? = some y → ∃ t, ts[i]? = some t ∧ ReprIs prog w y t) (hsz : (listText ts).length ≤ sizeLine)
    (h : ∀ (m : Str) (h' : Heap) (u tk : Tok), m.length ≤ (listText ts).length + 5 → (∀ b o, s.heap.get? b = some o → h'.get? b = some o) → Q (.str m u) { s with heap := h', toks := tk }) : wpAny (model prog w) A (formatField (.ref a) Str.empty) Q E s :=
  wpAny_formatField_slot (fun _ _ => nofun) hu ⟨o, ha, hc⟩ F.slot_list_format F.slot_list_str F.slot_list_repr.toG
    (fmt_list_repr (s := { s with toks := s.toks + 1 }) ha hc hd hlen hT hsz fun m h' u tk hm hk => ⟨m, u, rfl, h m h' u tk hm hk⟩)
end
end PySem

namespace L2
open PySem PySem.Spec PyProof.Rows
theorem text_le : ∀ (ts : List Str) (k : Nat) (acc : Str), (textFrom k acc ts).length ≤ acc.length + piled ts
  | [], k, acc => Nat.le_add_right _ _
  | t :: ts, k, acc => by
    have ih := text_le ts (k + 1) (acc ++ ((if k > 0 then ", " else "" : String) : Str) ++ t)
    have e : (((if k > 0 then ", " else "" : String)) : Str).length ≤ 2 := by split <;> decide +kernel
    rw [strLen_append, strLen_append] at ih
    rw [piled_cons]
    show (textFrom (k + 1) (acc ++ ((if k > 0 then ", " else "" : String) : Str) ++ t) ts).length ≤ _
    omega
theorem digit_len {i : Int} (h0 : 0 ≤ i) (h1 : i < 10) : (Str.ofString (toString i)).length = 1 := by
  have : i = 0 ∨ i = 1 ∨ i = 2 ∨ i = 3 ∨ i = 4 ∨ i = 5 ∨ i = 6 ∨ i = 7 ∨ i = 8 ∨ i = 9 := by omega
  rcases this with e | e | e | e | e | e | e | e | e | e <;> subst e <;> decide +kernel
section
variable {X : Cx}
/-- {xs}, xs a list of digits: some text -/
def tFmtL (K : PySem.W.Frag) (te : TE) : TE := fun σ H Q => te σ H fun x H1 => ∃ (a : Addr) (ns : List Int), x = .ref a ∧ SqL K H1 a (ns.map V.int) ∧ ns.length ≤ 100 ∧ (∀ n ∈ ns, 0 ≤ n ∧ n < 10) ∧ ∀ m : Str, m.length ≤ 1000 → Q (.str m) H1
theorem pe_fmtLu {e : Expr} {te : TE} {pos : Pos} (hu : X.A.units + 2 < cLine) (he : PE X e te) : PE X (.FormattedValue e (-1) none pos) (tFmtL X.K te) := by
  refine ⟨fun pins s σ H Q I h => ?_⟩
  refine wpAny_FormattedValue_plain (thn (he.run pins s σ H _ I h) fun v s1 hv => ?_)
  obtain ⟨x, H1, I1, r1, a, ns, rfl, hs, hl, hn, q⟩ := hv
  cases r1
  obtain ⟨its, rv, pl, _⟩ := I1.list hs
  obtain ⟨o, ho, hcl, n, hd⟩ := pl.isList
  have hlen := rv.length
  rw [List.length_map] at hlen
  have hpile : ∀ l : List Int, (∀ n ∈ l, 0 ≤ n ∧ n < 10) → piled (l.map fun i => Str.ofString (toString i)) = 3 * l.length := by
    intro l
    induction l with
    | nil => intro _; rfl
    | cons i l ih =>
      intro hl
      have hi := hl i List.mem_cons_self
      rw [List.map_cons, piled_cons, ih (fun n m => hl n (List.mem_cons_of_mem _ m)), digit_len hi.1 hi.2, List.length_cons]
      omega
  have hp := hpile ns hn
  have hz : (listText (ns.map fun i => Str.ofString (toString i))).length ≤ 3 * ns.length + 2 := by
    unfold listText
    have h1 := text_le (ns.map fun i => Str.ofString (toString i)) 0 "["
    have e1 : ((("[" : String) : Str)).length = 1 := rfl
    have e2 : ((("]" : String) : Str)).length = 1 := rfl
    rw [strLen_append, e2]
    rw [e1] at h1
    omega
  refine fmt_list (ts := ns.map fun i => Str.ofString (toString i)) (by omega) ho hcl hd (by rw [List.length_map, List.size_toArray]; exact hlen) (fun i y hy => ?_) (by rw [sizeLine_eq]; omega) fun m h' u tk hm hk => ⟨.str m, H1, I1.kept hk, ⟨u, rfl⟩, q m (by omega)⟩
  have hy' : its[i]? = some y := by simpa using hy
  have hlt : i < ns.length := by have := (List.getElem?_eq_some_iff.mp hy').1; omega
  obtain ⟨z, hz2, rz⟩ := rv.get (i := i) (x := .int ns[i]) (by rw [List.getElem?_map, List.getElem?_eq_getElem hlt]; rfl)
  rw [hy'] at hz2
  cases hz2
  obtain ⟨t, rfl⟩ := rz
  have hb := hn _ (List.getElem_mem hlt)
  refine ⟨_, by rw [List.getElem?_map, List.getElem?_eq_getElem hlt]; rfl, ReprIs.int t ?_⟩
  have : ns[i].natAbs < 10 := by omega
  exact Nat.lt_of_le_of_lt (Nat.log2_le_self _) (by omega)
theorem pe_fmtL {e : Expr} {te : TE} {pos : Pos} {k : Nat} (hr : Room k X.A) (he : PE X e te) : PE X (.FormattedValue e (-1) none pos) (tFmtL X.K te) := pe_fmtLu (by have := hr.units; omega) he
/-- C.m(e, ..), C the class at C (own), m a def of it -/
def tClsF (C : Addr) (sp : Sp) (E : XK) (ta : TE) (t : TA) : TE := fun σ H Q => ta σ H fun x H1 => x = .ref C ∧ t σ H1 fun vs H2 => sp vs H2 Q E
theorem pe_clsf {CX : CXT} {k : Nat} {C f : Addr} {fd : FuncData} {ps : List Str} {mc : Value} {sp : Sp} {E : XK} {o e : Expr} {es : List Expr} {m : Str} {pos apos : Pos} {ta : TE} {t : TA} {pl : Sem Bool} (he : PE X o ta) (r : ClX.CRead X.K C mc) (at_ : PySem.W.findCls X.K (.ref C) mc m = some (.val (.ref f)))
    (F : FnOk X.prog X.w X.K X.mg X.base CX k f fd ps sp) (hr : Room k X.A) (hk : PySem.W.keepIn X.K (.ref f) = true) (hb : Binds X.K fd ps []) (hx : Passes CX X E) (ha : PA X (e :: es) t)
    (hst : starEach (e :: es) X.env = (false, eval e X.env) :: starEach es X.env := by rfl) (hpl : (backTo pos (starEach es X.env)).any (·.1) = false := by rfl)
    (ht : eval (.Call (.Attribute o m apos) (e :: es) [] pos) X.env = (do
      let ov ← eval o X.env
      standAt apos.atName
      let (f, first) ← holding [ov] (getMethod ov m pl)
      callWith pos f first (backTo pos (starEach (e :: es) X.env)) (backToKw pos (keywordEach [] X.env))) := by rfl) :
    PE X (.Call (.Attribute o m apos) (e :: es) [] pos) (tClsF C sp E ta t) := by
  refine ⟨fun pins s σ H Q I h => ?_⟩
  refine PySem.W.methodCall_KW (pl := pl) (thn (he.run pins s σ H _ I h) fun u s1 ⟨x, H1, I1, rx, ex, q⟩ => ?_) ht
  subst ex
  obtain rfl : u = Value.ref C := rx
  refine PySem.W.method_cls I1.kIn r.ga (ClX.getcval_ok (v := .ref f) I1 r ⟨at_, rfl⟩ fun s2 I2 => ?_)
  refine PySem.W.callWith_K (h₀ := X.base) I2.ok.mod.kin hk (thn (ha.run pos pins s2 σ H1 _ I2 q) fun us s3 ⟨vs, H2, I3, rv, q2⟩ => ⟨I3.kIn, ?_⟩) hst hpl
  refine run_fn (dvs := []) F hr hb .nil hx I3 rv ?_
  rw [List.append_nil]
  exact q2
end
end L2

/-! several except clauses, with and without a name -/
namespace L2
open PySem PySem.Spec PyProof.Rows
/-- one clause: the class that it names, the slot of its name (if any), its suite's reading -/
structure Cl where
  c : Value
  i : Option Nat
  ts : Addr → Value → Option Addr → TS
def slotN (i : Option Nat) (v : Option V) (σ : St) : St := match i with
  | none => σ
  | some i => σ.set i v
def endsN (i : Option Nat) (D : Ends) : Ends := match i with
  | none => D
  | some i => { nx := fun σ H => D.nx (σ.set i none) H, rt := D.rt, bk := fun σ H => D.bk (σ.set i none) H, ct := fun σ H => D.ct (σ.set i none) H }
/-- what the clauses wish of an exception of the body -/
def wMix (K : PySem.W.Frag) (Wout : WX) (D : Ends) : List Cl → WX
  | [] => Wout
  | x :: r => fun cls d σ H => ∃ b, PySem.W.exmOne K cls x.c = some b ∧ (b = true → ∀ a, H a = none → x.ts a cls d (endsN x.i D) (slotN x.i (some (.ref a)) σ) H) ∧ (b = false → wMix K Wout D r cls d σ H)
inductive MixOk (X : Cx) : List ExceptHandler → List Cl → Prop
  | nil : MixOk X [] []
  | bare {x : Str} {c : Value} {ts : Addr → Value → Option Addr → TS} {b₀ : Stmt} {suite : List Stmt} {np pos' : Pos} {hds : List ExceptHandler} {l : List Cl} (hc : Names X x c)
      (hsu : ∀ (a : Addr) (oe : Obj) (cls : Value) (d : Option Addr) (pn : List (Addr × Obj)), Zc cls d oe → (∃ vs, oe.data = .fields vs) → PSs (X.suite a ((a, oe) :: pn)) (b₀ :: suite) (ts a cls d)) (r : MixOk X hds l) :
      MixOk X (.ExceptHandler (some (.Name x np)) none (b₀ :: suite) pos' :: hds) (⟨c, none, ts⟩ :: l)
  | as {x n : Str} {i : Nat} {c : Value} {ts : Addr → Value → Option Addr → TS} {b₀ : Stmt} {suite : List Stmt} {np pos' : Pos} {hds : List ExceptHandler} {l : List Cl} (hN : X.N.Nodup) (hi : X.N[i]? = some n) (hln : X.env.kindOf n = some .local) (hc : Names X x c)
      (hsu : ∀ (a : Addr) (oe : Obj) (cls : Value) (d : Option Addr) (pn : List (Addr × Obj)), Zc cls d oe → (∃ vs, oe.data = .fields vs) → PSs (X.suite a ((a, oe) :: pn)) (b₀ :: suite) (ts a cls d)) (r : MixOk X hds l) :
      MixOk X (.ExceptHandler (some (.Name x np)) (some n) (b₀ :: suite) pos' :: hds) (⟨c, some i, ts⟩ :: l)
section
variable {X : Cx} {body : List Stmt} {h₀ : ExceptHandler} {hds : List ExceptHandler} {l : List Cl} {pos : Pos} {tb : WX → TS} {Wout : WX}
theorem ps_try_mix (hs : X.stack = X.env :: X.outer) (hf : X.env.frame = some X.env.locals) (tk : Takes X Wout)
    (hb : ∀ (W : WX) (pn : List (Addr × Obj)) (xe : Value → Shared → Prop), Takes (X.tr pn xe) W → PassesOwn (model X.prog X.w) X.A X.env xe → PSs (X.tr pn xe) body (tb W))
    (hh : MixOk X (h₀ :: hds) l) : PS X (.Try body (h₀ :: hds) [] [] pos) (fun D σ H => tb (wMix X.K Wout D l) D σ H) := by
  refine ⟨fun pins s σ H D I h => ?_⟩
  have ok := I.ok
  have hfr : X.A.frames = some (X.env :: X.outer) := by rw [ok.frames, hs]
  refine wpAny_Try_except (wpAny_mono ((hb (wMix X.K Wout D l) (X.pn ++ pins) (fun e s₁ => wpAny (model X.prog X.w) X.A (noteFrame e X.env) (fun _ s₂ => wpAny (model X.prog X.w) X.A (setFlight e none) (fun _ s₃ => wpAny (model X.prog X.w) X.A (handleBy e X.env (h₀ :: hds)) (SP X pins D) X.xe s₃) X.xe s₂) X.xe s₁) (fun u s' xx => ?_) PassesOwn.looking).run [] s σ H D (I.toTry _) h) (fun f s1 hsp => ?_) (fun e s1 he => he))
  · obtain ⟨a, B, sI, pins', σ', H', cls, d, rfl, J', nb, up, sky, na, os, ag, w⟩ := xx
    have J : Inv X pins σ' H' sI := J'.ofTry ok
    have sky2 : Sky B (X.env :: X.outer) a (Zc cls d) X.env.locals s'.heap := by rw [← hs]; exact sky
    show wpAny (model X.prog X.w) X.A (noteFrame (.ref a) X.env) _ _ _
    refine Sky.land Zc.steady hfr hf sky2 fun h3 fl3 up3 => ?_
    have J3 : Inv X pins σ' H' { s' with heap := h3 } := J.landed nb fl3.1 (up.trans up3) os ag
    obtain ⟨oe3, vs3, he3, hz3, hd3⟩ := fl3.there
    have nfr : a ∉ frs (X.env :: X.outer) := fun hm => by
      obtain ⟨_, o', e', hnf⟩ := fl3.2.2.1.mem hm
      rw [he3] at e'; cases e'
      exact hnf _ hd3
    have nL : a ≠ X.env.locals := fun z => nfr (List.mem_filterMap.mpr ⟨X.env, List.mem_cons_self, by rw [hf, z]⟩)
    have nF : a ∉ X.fs := fun hm => by
      obtain ⟨e, he, q⟩ := List.mem_filterMap.mp hm
      exact nfr (List.mem_filterMap.mpr ⟨e, List.mem_cons_of_mem _ he, q⟩)
    have S3 := J3.suite he3 hd3 na nL nF
    have LT : PySem.W.Looks (model X.prog X.w) h3 (typeOf (.ref a)) cls := fun A Q E s k q => wpAny_typeOf_ref (k _ _ he3) (by rw [hz3.1]; exact q)
    have test : ∀ {x : Str} {c : Value} {np : Pos} {Q : Value → Shared → Prop} {E : Value → Shared → Prop}, Names X x c → Q c { s' with heap := h3 } → wpAny (model X.prog X.w) (X.A.mark (some (.ref a))) (eval (.Name x np) X.env) Q E { s' with heap := h3 } := fun {x c np Q E} hc q => by
      obtain ⟨hg, hdbg, hm | ⟨hm, hv, hnn⟩⟩ := hc
      · exact ld_glob (X := X.suite a ((a, oe3) :: (X.pn ++ pins))) S3 hg hm q hdbg
      · exact ld_blt (X := X.suite a ((a, oe3) :: (X.pn ++ pins))) S3 hg hm hv q hnn hdbg
    have go : ∀ {hds' : List ExceptHandler} {l' : List Cl}, MixOk X hds' l' → wMix X.K Wout D l' cls d σ' H' → wpAny (model X.prog X.w) X.A (handleBy (.ref a) X.env hds') (SP X pins D) X.xe { s' with heap := h3 } := by
      intro hds' l' hk
      induction hk with
      | nil =>
        intro w
        refine wpAny_handleBy_nil ?_
        obtain ⟨k1, k2, k3, oe, vs, T, oT, ts', he, hz, hd, h1, hr⟩ := id fl3
        unfold PySem.passOn
        refine wpAny_bind (wpAny_field he hd h1 ?_)
        rw [if_neg (show ¬ ((Value.ref T == Value.none) = true) from by simp)]
        have fin : wpAny (model X.prog X.w) X.A (setFlight (.ref a) X.env.frame) (fun _ s4 => wpAny (model X.prog X.w) X.A (throw (.ref a) : Sem Flow) (SP X pins D) X.xe s4) X.xe { s' with heap := h3 } := by
          rw [hf]
          refine HandSPX.setFlight_upZ fl3 fun h4 hh4 up4 => wpAny_throw (tk _ _ ?_)
          exact ⟨a, B, sI, pins, σ', H', cls, d, rfl, J, nb, (up.trans up3).trans up4, .inr (.inr (by rw [hs]; exact hh4)), na, os, ag, w⟩
        first
          | exact wpAny_bind (wpAny_pure (wpAny_bind fin))
          | exact wpAny_bind fin
      | @bare x c ts b₀ suite np pos' hds2 l2 hc hsu r ih =>
        intro w
        obtain ⟨b, hb1, hyes, hno⟩ := w
        refine wpAny_handleBy_cons (codeAny_handlers_test ?_) (by intro q; cases q)
        refine test hc ((PySem.W.exm_one (M := model X.prog X.w) (J3.kIn) LT hb1).here ?_)
        cases b with
        | true =>
          refine codeAny_handlers_suite (HandSPX.lands_againZ fl3 fun h4 fl4 up4 => ?_)
          have J4 : Inv X pins σ' H' { s' with heap := h4 } := J.landed nb fl4.1 ((up.trans up3).trans up4) os ag
          obtain ⟨oe4, vs4, he4, hz4, hd4⟩ := fl4.there
          refine wpAny_mono ((hsu a oe4 cls d (X.pn ++ pins) hz4 ⟨_, hd4⟩).run [] _ _ H' _ (J4.suite he4 hd4 na nL nF) (hyes rfl a na)) (fun f s6 hsp => ?_) (fun _ _ z => False.elim z)
          cases f with
          | next => obtain ⟨σ6, H6, S6, q6⟩ := hsp; exact ⟨_, _, S6.unsuite ok, q6⟩
          | brk => obtain ⟨σ6, H6, S6, q6⟩ := hsp; exact ⟨_, _, S6.unsuite ok, q6⟩
          | cont => obtain ⟨σ6, H6, S6, q6⟩ := hsp; exact ⟨_, _, S6.unsuite ok, q6⟩
          | ret u => obtain ⟨v6, σ6, H6, S6, r6, q6⟩ := hsp; exact ⟨_, _, _, S6.unsuite ok, r6, q6⟩
        | false =>
          show wpAny _ X.A (handleBy (.ref a) X.env hds2) _ _ _
          exact ih (hno rfl)
      | @as x n i c ts b₀ suite np pos' hds2 l2 hN hi hln hc hsu r ih =>
        intro w
        obtain ⟨b, hb1, hyes, hno⟩ := w
        have hloc : Loc X.env.scope n := .inl hln
        refine wpAny_handleBy_cons (codeAny_handlers_test ?_) (by intro q; cases q)
        refine test hc ((PySem.W.exm_one (M := model X.prog X.w) (J3.kIn) LT hb1).here ?_)
        cases b with
        | true =>
          refine codeAny_handlers_suite_as (HandSPX.lands_againZ fl3 fun h4 fl4 up4 => ?_)
          have J4 : Inv X pins σ' H' { s' with heap := h4 } := J.landed nb fl4.1 ((up.trans up3).trans up4) os ag
          obtain ⟨oe4, vs4, he4, hz4, hd4⟩ := fl4.there
          have S4 := J4.suite he4 hd4 na nL nF
          refine store_ok (X := X.suite a ((a, oe4) :: (X.pn ++ pins))) (v := .ref a) S4 hN hi hloc rfl (fun s5 S5 => ?_) (.inr hln)
          refine wpAny_mono ((hsu a oe4 cls d (X.pn ++ pins) hz4 ⟨_, hd4⟩).run [] s5 _ H' _ S5 (hyes rfl a na)) (fun f s6 hsp => ?_) (fun _ _ z => False.elim z)
          have end_ : ∀ {σ6 : St} {H6 : Hp} {Q : Shared → Prop}, Inv (X.suite a ((a, oe4) :: (X.pn ++ pins))) [] σ6 H6 s6 → (∀ s7, Inv X pins (σ6.set i none) H6 s7 → Q s7) → wpAny (model X.prog X.w) X.A (do bindName X.env n .none; unbindBehindTheSuite X.env n pos') (fun _ s7 => Q s7) X.xe s6 := fun {σ6 H6 Q} S6 hq => gone_ok (S6.unsuite ok) hN hi hln hq
          cases f with
          | next => obtain ⟨σ6, H6, S6, q6⟩ := hsp; exact end_ S6 fun s7 J7 => ⟨_, _, J7, q6⟩
          | brk => obtain ⟨σ6, H6, S6, q6⟩ := hsp; exact end_ S6 fun s7 J7 => ⟨_, _, J7, q6⟩
          | cont => obtain ⟨σ6, H6, S6, q6⟩ := hsp; exact end_ S6 fun s7 J7 => ⟨_, _, J7, q6⟩
          | ret u => obtain ⟨v6, σ6, H6, S6, r6, q6⟩ := hsp; exact end_ S6 fun s7 J7 => ⟨_, _, _, J7, r6, q6⟩
        | false =>
          show wpAny _ X.A (handleBy (.ref a) X.env hds2) _ _ _
          exact ih (hno rfl)
    exact go hh w
  · cases f with
    | next => obtain ⟨σ', H', J', q⟩ := hsp; exact wpAny_execs_nil ⟨σ', H', J'.ofTry ok, q⟩
    | brk => obtain ⟨σ', H', J', q⟩ := hsp; exact ⟨σ', H', J'.ofTry ok, q⟩
    | cont => obtain ⟨σ', H', J', q⟩ := hsp; exact ⟨σ', H', J'.ofTry ok, q⟩
    | ret u => obtain ⟨v, σ', H', J', r, q⟩ := hsp; exact ⟨v, σ', H', J'.ofTry ok, r, q⟩
end
end L2

namespace K
open PySem PySem.Spec PyProof.Rows L2
/-- whether an error of the class at S is what «except C» names -/
theorem exm_pair {K : PySem.W.Frag} {S C : Addr} {b : Bool} (h1 : PySem.W.subIn K (.ref C) (.type "BaseException") = some true) (h2 : PySem.W.isClsIn K C = true) (h3 : PySem.W.typeIn K (.ref C) = some (.type "type")) (h4 : PySem.W.subIn K (.ref S) (.ref C) = some b) : PySem.W.exmOne K (.ref S) (.ref C) = some b := by
  have e1 : (PySem.W.subIn K (.ref C) (.type "BaseException") == some true) = true := by rw [h1] <;> rfl
  have e2 : ((PySem.W.clsIn K C).isSome && PySem.W.typeIn K (.ref C) == some (.type "type")) = true := by
    have h2' : (PySem.W.clsIn K C).isSome = true := h2
    rw [h2', h3] <;> rfl
  show (if (PySem.W.subIn K (.ref C) (.type "BaseException") == some true) = true then (if ((PySem.W.clsIn K C).isSome && PySem.W.typeIn K (.ref C) == some (.type "type")) = true then PySem.W.subIn K (.ref S) (.ref C) else none) else none) = some b
  rw [if_pos e1, if_pos e2]
  exact h4
/-- what the top has written of SlipError and its __init__ -/
structure SlipT (K : PySem.W.Frag) (mg : Str → Option Value) (CS fS : Addr) : Prop where
  g : mg "SlipError" = some (.ref CS)
  r : ClX.CRead K CS (.type "type")
  at_ : PySem.W.findCls K (.ref CS) (.type "type") "__init__" = some (.val (.ref fS))
  kp : PySem.W.keepIn K (.ref fS) = true
  vV : PySem.W.findCls K (.type "ValueError") (.type "type") "__init__" = some (.val (.builtin "ValueError.__init__"))
  mV : mg "ValueError" = none
/-- .. of a refusal's class x at C, its __init__ at fI -/
structure ExcT (K : PySem.W.Frag) (mg : Str → Option Value) (x : Str) (C fI : Addr) : Prop where
  g : mg x = some (.ref C)
  oex : OexC K C
  xf : XfC K C
  iC : PySem.W.findIn K (.ref C) "__init__" = some (some (.ref fI))
  tI : PySem.W.typeIn K (.ref fI) = some (.type "function")
  word : PySem.W.findIn K (.ref C) "word" = some none
def spSlip (K : PySem.W.Frag) : Sp := fun vs H Q _ => ∃ (a C : Addr) (w y : Str), vs = [.ref a, .str w, .str y] ∧ OexC K C ∧ PySem.W.findIn K (.ref C) "word" = some none ∧ H a = some (exo a C none) ∧
  ∀ dx, H dx = none → dx ≠ a → Q .non (upd (upd H dx (exd dx [("word", .str w)])) a (exo a C (some dx)))
/-- C(v): the exception at a gets its fields, newest first, in a new dict; all else stands -/
def spIn1 (K : PySem.W.Frag) (f wd : Str) (ask : Hp → V → Prop) (got : Hp → Hp → V → V → Prop) : Sp := fun vs H Q _ => ∃ (a C : Addr) (v : V), vs = [.ref a, v] ∧ ask H v ∧ OexC K C ∧ PySem.W.findIn K (.ref C) "word" = some none ∧ PySem.W.findIn K (.ref C) f = some none ∧ H a = some (exo a C none) ∧
  ∀ (dx : Addr) (v' : V) (H' : Hp), H dx = none → dx ≠ a → (∀ b o, H b = some o → b ≠ a → H' b = some o) → H' a = some (exo a C (some dx)) → H' dx = some (exd dx [(f, v'), ("word", .str wd)]) → got H H' v v' → Q .non H'
def askInt : Hp → V → Prop := fun _ v => ∃ i : Int, v = .int i ∧ i.natAbs.log2 < 1920
def gotSame : Hp → Hp → V → V → Prop := fun _ _ v v' => v' = v
/-- a list of digits -/
def askLot (K : PySem.W.Frag) : Hp → V → Prop := fun H v => ∃ (l : Addr) (ns : List Int), v = .ref l ∧ H l = some (.lst (ns.map V.int)) ∧ ns.length ≤ 100 ∧ ∀ n ∈ ns, 0 ≤ n ∧ n < 10
def gotLot : Hp → Hp → V → V → Prop := fun H0 H v v' => ∃ (l l' : Addr) (xs : List V), v = .ref l ∧ v' = .ref l' ∧ H l = some (.lst xs) ∧ H l' = some (.lst xs) ∧ l ≠ l' ∧ H0 l' = none
theorem ext_ne_lst {H : Hp} {a b : Addr} {C : Addr} {d : Option Addr} {xs : List V} (h : H a = some (exo a C d)) (h' : H b = some (.lst xs)) : b ≠ a := fun e => by
  subst e
  rw [h] at h'
  cases h'
section
variable {P : Program} {w : World} {K : PySem.W.Frag} {mg : Str → Option Value} {base : Heap}
theorem join2_le {c m : Str} (hc : (Str.empty ++ c).length ≤ 1000) (hm : m.length ≤ 2000) : ((Str.empty ++ c) ++ m).length ≤ sizeLine := by
  rw [strLen_append, sizeLine_eq]
  omega
theorem join3_le {c m e : Str} (hc : (Str.empty ++ c).length ≤ 1000) (hm : m.length ≤ 2000) (he : e.length ≤ 1000) : (((Str.empty ++ c) ++ m) ++ e).length ≤ sizeLine := by
  rw [strLen_append, strLen_append, sizeLine_eq]
  omega
/-- what a raise of such a refusal leaves -/
theorem raised_same {H H2 : Hp} {a d : Addr} {fs : List (Str × V)} (ha : H a = none) (k : ∀ b o, H b = some o → b ≠ a → H2 b = some o) (hd : H d = none) : Same H (upd (del H2 a) d (.xd fs)) := fun b o e => by
  have hb : b ≠ a := ne_of_none e ha
  rw [upd_ne (ne_of_none e hd), del_ne hb]
  exact k b o e hb
end
end K

namespace K
open PySem PySem.Spec PyProof.Rows L2
open Sw (T3 Dist at? relax roundOf rounds IsNext Cand IsFar nbr candL WayTo lotOf)
/-- a def that may raise, as it can be called -/
structure CalX (P : Program) (w : World) (K : PySem.W.Frag) (mg : Str → Option Value) (base : Heap) (k : Nat) (x : Str) (f : Addr) (fd : FuncData) (ps : List Str) (sp : Sp) : Prop where
  ok : FnOk P w K mg base (L2.CX P w) k f fd ps sp
  g : mg x = some (.ref f)
  kp : PySem.W.keepIn K (.ref f) = true
  b : Binds K fd ps []
/-- a refusal's class with the promise of its __init__ -/
structure ExcC (P : Program) (w : World) (K : PySem.W.Frag) (mg : Str → Option Value) (base : Heap) (k : Nat) (x : Str) (C fI : Addr) (fd : FuncData) (ps : List Str) (sp : Sp) : Prop where
  t : ExcT K mg x C fI
  ok : FnOk P w K mg base CX0 k fI fd ps sp
  b : Binds K fd ps []
/-- NoHouse(h), as it is in the air: its dict, new; all else stands -/
def HouseX (CH : Addr) (h : Int) (H : Hp) (E : XK) : Prop := ∀ (d : Addr) (H' : Hp), H d = none → Same H H' → H' d = some (.xd [("house", .int h), ("word", .str "nohouse")]) → E (.ref CH) (some d) H'
def LotX (CW : Addr) (wd : Str) (lot : List Nat) (H : Hp) (E : XK) : Prop := ∀ (d l : Addr) (H' : Hp), H d = none → H l = none → Same H H' → H' d = some (.xd [("lot", .ref l), ("word", .str wd)]) → H' l = some (.lst (lot.map fun h => V.int (h : Nat))) → E (.ref CW) (some d) H'
def spCheckX (CH : Addr) : Sp := fun vs H Q E => ∃ (n : Nat) (h : Int), vs = [.int (n : Nat), .int h] ∧ h.natAbs.log2 < 1920 ∧ (0 ≤ h ∧ h < n → Q .non H) ∧ (¬ (0 ≤ h ∧ h < n) → HouseX CH h H E)
def spReach : Sp := fun vs H Q _ => ∃ (n g : Nat) (t : Addr) (ts : List T3), vs = [.int (n : Nat), .ref t, .int (g : Nat)] ∧ g < n ∧ n ≤ 1000 ∧ TiesAt H t ts ∧ Fits n ts ∧ ∀ p H', H p = none → Same H H' → H' p = some (.lst ((lotOf n (farD n ts g)).map fun h => V.int (h : Nat))) → Q (.ref p) H'
/-- (price, way) -/
def PriceWay (H : Hp) (p : Addr) (c : Nat) (way : List Nat) : Prop := ∃ w : Addr, H p = some (.tup [.int (c : Nat), .ref w]) ∧ H w = some (.tup (way.map fun h => V.int (h : Nat)))
def spLeastX (CH CW : Addr) : Sp := fun vs H Q E => ∃ (n : Nat) (s g : Int) (t : Addr) (ts : List T3), vs = [.int (n : Nat), .ref t, .int s, .int g] ∧ n ≤ 9 ∧ s.natAbs.log2 < 1920 ∧ g.natAbs.log2 < 1920 ∧ TiesAt H t ts ∧ ts.length ≤ 400 ∧ Fits n ts ∧ (∀ e ∈ ts, 1 ≤ e.2.2 ∧ e.2.2 ≤ 9) ∧
  (¬ (0 ≤ s ∧ s < n) → HouseX CH s H E) ∧ (0 ≤ s ∧ s < n → ¬ (0 ≤ g ∧ g < n) → HouseX CH g H E) ∧
  (∀ s' g' : Nat, s = s' → g = g' → s' < n → g' < n → at? (farD n ts g') s' = none → LotX CW "noway" (lotOf n (farD n ts s')) H E) ∧
  (∀ (s' g' c : Nat) (way : List Nat), s = s' → g = g' → s' < n → g' < n → at? (farD n ts g') s' = some c → WayTo (both ts) (farD n ts g') g' s' way → way.length ≤ 100 → ∀ p H', H p = none → Same H H' → PriceWay H' p c way → Q (.ref p) H')
end K

/-! raising out of a named except suite; defs whose exceptions have no context; defs called while an exception is handled -/
namespace L2H
open PySem PySem.Spec PyProof.Rows L2 HotX
/-- the context of an except suite that may raise, its wish xe -/
abbrev suiteA (X : Cx) (a : Addr) (pn : List (Addr × Obj)) (xe : Value → Shared → Prop) : Cx := { X with A := X.A.mark (some (.ref a)), calm := false, pn := pn, xe := xe }
theorem tracedZ_sameBut {h h' base : Heap} {e L : Addr} {Z : Obj → Prop} {fl : Value} {m : Str → Option Value} (x : HandSPX.TracedZ h base e Z fl) (hn : h.Ns L m) (hs : Heap.SameBut L h h') : HandSPX.TracedZ h' base e Z fl := by
  obtain ⟨oe, vs, T, oT, ts, he, hc, hd, h1, hnT, hTe, hT, hdT, h3⟩ := x
  obtain ⟨oL, es, ep, hoL, hdL, _⟩ := hn
  have neE : e ≠ L := fun q => by
    rw [q, hoL] at he
    have z := Option.some.inj he
    rw [← z, hdL] at hd
    cases hd
  have neT : T ≠ L := fun q => by
    rw [q, hoL] at hT
    have z := Option.some.inj hT
    rw [← z, hdL] at hdT
    cases hdT
  exact ⟨oe, vs, T, oT, ts, (hs.2 e neE).trans he, hc, hd, h1, hnT, hTe, (hs.2 T neT).trans hT, hdT, h3⟩
section
variable {X : Cx} {pins : List (Addr × Obj)} {σ : L2.St} {H : Hp} {s : Shared} {i : Nat} {n : Str}
/-- the name's slot out of hand: any state that differs at the def's own names only -/
theorem inv_gone {h' : Heap} {v : Option Value} {m : Str → Option Value} {t' : Nat} (I : Inv X pins σ H s) (hN : X.N.Nodup) (hi : X.N[i]? = some n) (hn0 : s.heap.Ns X.env.locals m)
    (hn' : h'.Ns X.env.locals (fun x => if x = n then v else m x)) (hs : Heap.SameBut X.env.locals s.heap h') : Inv X pins (σ.set i none) H { s with heap := h', toks := t' } := by
  obtain ⟨mI, hnI, hlk⟩ := id I.loc
  have em : ∀ y, mI y = m y := fun y => by
    obtain ⟨o1, es1, ep1, e1, d1, k1, f1⟩ := hnI
    obtain ⟨o2, es2, ep2, e2, d2, k2, f2⟩ := hn0
    rw [e1] at e2
    cases e2
    rw [d1] at d2
    cases d2
    rw [← f1 y, ← f2 y]
  have neL : ∀ b o, X.s_0.heap.get? b = some o → b ≠ X.env.locals := fun b o e => Nat.ne_of_lt (Nat.lt_of_lt_of_le (Heap.lt_size e) I.ok.above)
  refine ⟨I.ok, I.os, I.bare, ⟨fun b o e n hb hx => ?_, fun b o e n hb hx => ?_, I.base.free, fun b o e hx => ?_, I.base.tups, I.base.frzs, I.base.tbls⟩, ⟨_, hn', fun j y v' e1 e2 e3 => ?_⟩, fun y c e => ?_, I.free, I.freeC, fun p hp => ?_, fun b ob e => ?_, by simpa using I.len⟩
  · exact (hs.2 b (neL b o e)).trans (I.base.keep b o e n hb hx)
  · obtain ⟨sl, e1⟩ := I.base.slot b o e n hb hx
    exact ⟨sl, (hs.2 b (neL b o e)).trans e1⟩
  · obtain ⟨o', e1⟩ := I.base.there b o e hx
    exact ⟨o', (hs.2 b (neL b o e)).trans e1⟩
  · by_cases hj : j = i
    · subst hj
      by_cases hlt : j < σ.length
      · rw [List.getElem?_set_self hlt] at e2; cases e2
      · rw [List.getElem?_eq_none (by simpa using hlt)] at e2; cases e2
    · rw [List.getElem?_set_ne (Ne.symm hj)] at e2
      obtain ⟨u', r', q⟩ := hlk j y v' e1 e2 e3
      refine ⟨u', r', ?_⟩
      rcases q with ⟨k, e⟩ | ⟨k, c, e, z⟩
      · have ny : y ≠ n := fun e => hj (nodup_ix hN e1 (e ▸ hi))
        exact .inl ⟨k, (if_neg ny).trans ((em y).symm.trans e)⟩
      · exact .inr ⟨k, c, e, z.sameBut hs (I.cne y c e)⟩
  · obtain ⟨w', z⟩ := I.cell y c e
    exact ⟨w', z.sameBut hs (I.cne y c e)⟩
  · obtain ⟨e, n, ne, nf, d⟩ := I.pin p hp
    exact ⟨(hs.2 p.1 ne).trans e, n, ne, nf, d⟩
  · refine (I.hok b ob e).stay (fun c w' hc q => (hs.2 c ?_).trans q) (fun _ q => q) fun _ _ q => q
    intro z
    subst z
    rcases hc with hc | hc
    · rw [← hc, I.free] at e; cases e
    · rw [I.free] at hc; cases hc
/-- what flies out of a named suite: it is noted, the name goes, it is passed on and comes back into the def's own activation -/
theorem takes_as {a : Addr} {q : Addr × Obj} {pos : Pos} {Wout : WX} {xe E₁ E₂ : Value → Shared → Prop} (hs : X.stack = X.env :: X.outer) (hf : X.env.frame = some X.env.locals) (hN : X.N.Nodup) (hi : X.N[i]? = some n) (hln : X.env.kindOf n = some .local) (tk : L2.Takes X Wout) (ok : X.Ok)
    {u : Value} {s' : Shared} (x : L2.XE (suiteA X a (q :: (X.pn ++ pins)) xe) (fun c d σ H => Wout c d (σ.set i none) H) u s') :
    wpAny (model X.prog X.w) (X.A.mark (some (.ref a))) (noteFrame u X.env) (fun _ s₃ => wpAny (model X.prog X.w) (X.A.mark (some (.ref a))) (do bindName X.env n .none; unbindBehindTheSuite X.env n pos)
      (fun _ s₄ => wpAny (model X.prog X.w) (X.A.mark (some (.ref a))) (passOn "try.except-as" u X.env : Sem Flow) (fun _ _ => False) (notedBy (model X.prog X.w) (X.A.mark (some (.ref a))) X.env (cameBackBy (model X.prog X.w) X.A X.env X.xe)) s₄) E₂ s₃) E₁ s' := by
  obtain ⟨a2, B, sI, pn2, σ, H, cls, d, rfl, I, nb, up, sky, na, os, ag, w⟩ := x
  have J : Inv X pins σ H sI := Inv.unsuite (X := X) (a := a) (q := q) (pn' := pn2) (show Inv (X.suite a (q :: (X.pn ++ pins))) pn2 σ H sI from I.wish fun _ _ => False) ok
  have hfr : (X.A.mark (some (.ref a))).frames = some (X.env :: X.outer) := by
    show X.A.frames = _
    rw [ok.frames, hs]
  have sky : Sky B (X.env :: X.outer) a2 (Zc cls d) X.env.locals s'.heap := by rw [← hs]; exact sky
  have nb : ∀ b o, sI.heap.get? b = some o → b ∉ frs X.stack → B.get? b = some o := nb
  have hcls : (X.env.scope.kind == .class || (X.env.scope.kind == .module && X.env.locals != X.env.globals)) = false := by rw [ok.kind]; rfl
  obtain ⟨mI, hnI, _⟩ := id J.loc
  have fin : ∀ h1, HandSPX.HeldZ B (X.env :: X.outer) a2 (Zc cls d) X.env.locals h1 → s'.heap.UpToSlots h1 → wpAny (model X.prog X.w) (X.A.mark (some (.ref a))) (do bindName X.env n .none; unbindBehindTheSuite X.env n pos)
      (fun _ s₄ => wpAny (model X.prog X.w) (X.A.mark (some (.ref a))) (passOn "try.except-as" (.ref a2) X.env : Sem Flow) (fun _ _ => False) (notedBy (model X.prog X.w) (X.A.mark (some (.ref a))) X.env (cameBackBy (model X.prog X.w) X.A X.env X.xe)) s₄) E₂ { s' with heap := h1 } := by
    intro h1 hh up1
    have upA := up.trans up1
    have hn : h1.Ns X.env.locals mI := upA.ns hnI
    have hbL : B.get? X.env.locals = none := by
      obtain ⟨_, ⟨L', _, hf', hb', _⟩, _⟩ := hh.2.2.1
      rw [hf] at hf'
      rw [Option.some.inj hf']
      exact hb'
    refine wpAny_nameGoes_keeps hln hn hcls fun h2 v hn2 hs2 => ?_
    have hh2 : HandSPX.HeldZ B (X.env :: X.outer) a2 (Zc cls d) X.env.locals h2 :=
      ⟨fun b o hb => (hs2.2 b fun z => by rw [z, hbL] at hb; cases hb).trans (hh.1 b o hb), hh.2.1, Heap.FunFrames.sameBut hs2 hn2 hh.2.2.1, tracedZ_sameBut hh.2.2.2 hn hs2⟩
    obtain ⟨oe, vs, T, oT, ts, he, hz, hd, h1', r⟩ := id hh2.2.2.2
    unfold PySem.passOn
    refine wpAny_bind (wpAny_field he hd h1' ?_)
    rw [if_neg (show ¬ ((Value.ref T == Value.none) = true) from by simp)]
    rw [hf]
    have go : wpAny (model X.prog X.w) (X.A.mark (some (.ref a))) (setFlight (.ref a2) (some X.env.locals)) (fun _ s4 => wpAny (model X.prog X.w) (X.A.mark (some (.ref a))) (throw (.ref a2) : Sem Flow) (fun _ _ => False) (notedBy (model X.prog X.w) (X.A.mark (some (.ref a))) X.env (cameBackBy (model X.prog X.w) X.A X.env X.xe)) s4) (notedBy (model X.prog X.w) (X.A.mark (some (.ref a))) X.env (cameBackBy (model X.prog X.w) X.A X.env X.xe)) { s' with heap := h2, toks := s'.toks + 1 } := by
      refine HandSPX.setFlight_onZ hh2 fun h3 hh3 up3 => wpAny_throw ?_
      show wpAny _ _ (noteFrame (.ref a2) X.env) _ _ _
      refine HandSPX.againZ hf hh3.2.2.2 ?_
      obtain ⟨oe3, vs3, T3, oT3, ts3, he3, hz3, hd3, h13, r3⟩ := id hh3.2.2.2
      show wpAny _ X.A (do
        if (← field (.ref a2) 1) == .none then unsupported "frame.own-activation:exception-without-traceback"
        setFlight (.ref a2) X.env.frame) _ _ _
      refine wpAny_bind (wpAny_field he3 hd3 h13 ?_)
      rw [if_neg (show ¬ ((Value.ref T3 == Value.none) = true) from by simp)]
      rw [hf]
      refine HandSPX.setFlight_onZ hh3 fun h4 hh4 up4 => tk _ _ ?_
      obtain ⟨oL, es, ep, hoL, hdL, hkL, hfL⟩ := id hn2
      obtain ⟨oI, esI, epI, hoI, hdI, _⟩ := id hnI
      have eL : (sI.heap.update X.env.locals fun _ => oL).get? X.env.locals = some oL := Heap.get?_update_self (fun _ => oL) hoI (Obj.isFreed_of_dict hdL)
      have eO : ∀ b, b ≠ X.env.locals → (sI.heap.update X.env.locals fun _ => oL).get? b = sI.heap.get? b := fun b hb => Heap.get?_update_other _ _ (Ne.symm hb)
      have J2 : Inv X pins (σ.set i none) H { sI with heap := sI.heap.update X.env.locals fun _ => oL, toks := sI.toks } :=
        inv_gone (t' := sI.toks) (m := mI) (v := v) J hN hi hnI ⟨oL, es, ep, eL, hdL, hkL, hfL⟩ (Heap.SameBut.update _ _ _)
      have upB := up3.trans up4
      refine ⟨a2, B, _, pins, _, H, cls, d, rfl, J2, fun b o e hb => ?_, fun b o e hnf => ?_, .inr (.inr (by rw [hs]; exact hh4)), na, os, ag, w⟩
      · have hbL2 : b ≠ X.env.locals := fun z => hb (by rw [z, hs]; exact List.mem_filterMap.mpr ⟨X.env, List.mem_cons_self, hf⟩)
        exact nb b o ((eO b hbL2).symm.trans e) hb
      · by_cases hbL2 : b = X.env.locals
        · subst hbL2
          have e' : some oL = some o := eL.symm.trans e
          cases e'
          exact upB _ _ hoL hnf
        · obtain ⟨sl, e1⟩ := upA b o ((eO b hbL2).symm.trans e) hnf
          obtain ⟨sl2, e2⟩ := upB b _ ((hs2.2 b hbL2).trans e1) hnf
          exact ⟨sl2, e2⟩
    first
      | exact wpAny_bind (wpAny_pure (wpAny_bind go))
      | exact wpAny_bind go
  rcases sky with ⟨hB, hn, hl, oe, vs, he, hz, hd, h1⟩ | fl | hh
  · exact HandSPX.look_newZ Zc.steady hfr hl hf he hB hn hd h1 hz fin
  · exact HandSPX.looks_onZ Zc.steady hfr hf fl fin
  · exact HandSPX.againZ hf hh.2.2.2 (fin s'.heap hh (Heap.UpToSlots.refl _))
end
section
variable {X : Cx} {x n : Str} {c : Value} {i : Nat} {body suite : List Stmt} {b₀ : Stmt} {np pos pos' : Pos} {tb : WX → TS} {ts : Addr → Value → Option Addr → TS} {Wout : WX}
/-- try: body, except x as n: suite that may raise out -/
theorem ps_try_asX (hs : X.stack = X.env :: X.outer) (hf : X.env.frame = some X.env.locals) (hN : X.N.Nodup) (hi : X.N[i]? = some n) (hln : X.env.kindOf n = some .local) (hc : Names X x c) (tk : L2.Takes X Wout)
    (hb : ∀ (W : WX) (pn : List (Addr × Obj)) (xe : Value → Shared → Prop), L2N.Takes (X.tr pn xe) W → PassesOwn (model X.prog X.w) X.A X.env xe → PSs (X.tr pn xe) body (tb W))
    (hsu : ∀ (a : Addr) (oe : Obj) (cls : Value) (d : Option Addr) (pn : List (Addr × Obj)) (xe : Value → Shared → Prop), L2N.Zn cls d oe → (∃ vs, oe.data = .fields vs) → L2.Takes (suiteA X a ((a, oe) :: pn) xe) (fun c d σ H => Wout c d (σ.set i none) H) → HotC (suiteA X a ((a, oe) :: pn) xe) →
      PSs (suiteA X a ((a, oe) :: pn) xe) (b₀ :: suite) (ts a cls d)) :
    PS X (.Try body [.ExceptHandler (some (.Name x np)) (some n) (b₀ :: suite) pos'] [] [] pos) (fun D σ H => tb (wAs X.K c i ts Wout D) D σ H) := by
  refine ⟨fun pins s σ H D I h => ?_⟩
  have ok := I.ok
  have hfr : X.A.frames = some (X.env :: X.outer) := by rw [ok.frames, hs]
  have hloc : Loc X.env.scope n := .inl hln
  refine wpAny_Try_except ?_
  refine wpAny_mono ((hb (wAs X.K c i ts Wout D) (X.pn ++ pins) (fun e s₁ => wpAny (model X.prog X.w) X.A (noteFrame e X.env) (fun _ s₂ => wpAny (model X.prog X.w) X.A (setFlight e none) (fun _ s₃ =>
    wpAny (model X.prog X.w) X.A (handleBy e X.env [.ExceptHandler (some (.Name x np)) (some n) (b₀ :: suite) pos']) (SP X pins D) X.xe s₃) X.xe s₂) X.xe s₁) (fun u s' xx => ?_) PassesOwn.looking).run [] s σ H D (I.toTry _) h) (fun f s1 hsp => ?_) (fun e s1 he => he)
  · obtain ⟨a, B, sI, pins', σ', H', cls, d, rfl, J', nb, up, sky, na, os, ag, b, hb1, hyes, hno⟩ := xx
    have J : Inv X pins σ' H' sI := J'.ofTry ok
    have sky' : Sky B (X.env :: X.outer) a (L2N.Zn cls d) X.env.locals s'.heap := by rw [← hs]; exact sky
    show wpAny (model X.prog X.w) X.A (noteFrame (.ref a) X.env) _ _ _
    refine L2N.Sky.land L2N.Zn.steady hfr hf sky' fun h3 fl3 up3 => ?_
    have J3 : Inv X pins σ' H' { s' with heap := h3 } := J.landed nb fl3.1 (up.trans up3) os ag
    obtain ⟨oe3, vs3, he3, hz3, hd3⟩ := fl3.there
    have nfr : a ∉ frs (X.env :: X.outer) := fun hm => by
      obtain ⟨_, o', e', hnf⟩ := fl3.2.2.1.mem hm
      rw [he3] at e'; cases e'
      exact hnf _ hd3
    have nL : a ≠ X.env.locals := fun z => nfr (List.mem_filterMap.mpr ⟨X.env, List.mem_cons_self, by rw [hf, z]⟩)
    have nF : a ∉ X.fs := fun hm => by
      obtain ⟨e, he, q⟩ := List.mem_filterMap.mp hm
      exact nfr (List.mem_filterMap.mpr ⟨e, List.mem_cons_of_mem _ he, q⟩)
    have S3 := J3.suite he3 hd3 na nL nF
    refine wpAny_handleBy_cons (codeAny_handlers_test ?_) (by intro q; cases q)
    have LT : PySem.W.Looks (model X.prog X.w) h3 (typeOf (.ref a)) cls := fun A Q E s k q => wpAny_typeOf_ref (k _ _ he3) (by rw [hz3.1]; exact q)
    have LM := PySem.W.exm_one (M := model X.prog X.w) (J3.kIn) LT hb1
    have test : ∀ {Q : Value → Shared → Prop} {E : Value → Shared → Prop}, Q c { s' with heap := h3 } → wpAny (model X.prog X.w) (X.A.mark (some (.ref a))) (eval (.Name x np) X.env) Q E { s' with heap := h3 } := fun {Q E} q => by
      obtain ⟨hg, hdbg, hm | ⟨hm, hv, hnn⟩⟩ := hc
      · exact ld_glob (X := X.suite a ((a, oe3) :: (X.pn ++ pins))) S3 hg hm q hdbg
      · exact ld_blt (X := X.suite a ((a, oe3) :: (X.pn ++ pins))) S3 hg hm hv q hnn hdbg
    refine test (LM.here ?_)
    cases b with
    | true =>
      refine codeAny_handlers_suite_as ?_
      refine HandSPX.lands_againZ fl3 fun h4 fl4 up4 => ?_
      have J4 : Inv X pins σ' H' { s' with heap := h4 } := J.landed nb fl4.1 ((up.trans up3).trans up4) os ag
      obtain ⟨oe4, vs4, he4, hz4, hd4⟩ := fl4.there
      have S4 := J4.suite he4 hd4 na nL nF
      refine store_ok (X := X.suite a ((a, oe4) :: (X.pn ++ pins))) (v := .ref a) S4 hN hi hloc rfl (fun s5 S5 => ?_) (.inr hln)
      have hot : ∀ xe, HotC (suiteA X a ((a, oe4) :: (X.pn ++ pins)) xe) := fun xe => ⟨(a, oe4), ⟨rfl, vs4, hd4, hz4.2.2 vs4 hd4⟩, List.mem_cons_self⟩
      have end_ : ∀ {σ6 : L2.St} {H6 : Hp} {s6 : Shared} {Q : Shared → Prop} {xe : Value → Shared → Prop} {E : Value → Shared → Prop}, Inv (suiteA X a ((a, oe4) :: (X.pn ++ pins)) xe) [] σ6 H6 s6 → (∀ s7, Inv X pins (σ6.set i none) H6 s7 → Q s7) → wpAny (model X.prog X.w) X.A (do bindName X.env n .none; unbindBehindTheSuite X.env n pos') (fun _ s7 => Q s7) E s6 := fun {σ6 H6 s6 Q xe E} S6 hq =>
        gone_ok (Inv.unsuite (X := X) (a := a) (q := (a, oe4)) (pn' := []) (show Inv (X.suite a ((a, oe4) :: (X.pn ++ pins))) [] σ6 H6 s6 from S6.wish fun _ _ => False) ok) hN hi hln hq
      refine wpAny_mono ((hsu a oe4 cls d (X.pn ++ pins) _ hz4 ⟨_, hd4⟩ (fun u s' x => takes_as (pins := pins) (pos := pos') hs hf hN hi hln tk ok x) (hot _)).run [] s5 _ H' _ (Inv.unwish (X := suiteA X a ((a, oe4) :: (X.pn ++ pins)) _) (E := fun _ _ => False) S5) (hyes rfl a na)) (fun f s6 hsp => ?_) (fun _ _ z => z)
      cases f with
      | next => obtain ⟨σ6, H6, S6, q6⟩ := hsp; exact end_ S6 fun s7 J7 => ⟨_, _, J7, q6⟩
      | brk => obtain ⟨σ6, H6, S6, q6⟩ := hsp; exact end_ S6 fun s7 J7 => ⟨_, _, J7, q6⟩
      | cont => obtain ⟨σ6, H6, S6, q6⟩ := hsp; exact end_ S6 fun s7 J7 => ⟨_, _, J7, q6⟩
      | ret u => obtain ⟨v6, σ6, H6, S6, r6, q6⟩ := hsp; exact end_ S6 fun s7 J7 => ⟨_, _, _, J7, r6, q6⟩
    | false =>
      show wpAny _ X.A (handleBy (.ref a) X.env []) _ _ _
      refine wpAny_handleBy_nil ?_
      have fl3' := flyingZ_imp (Z' := Zc cls d) (fun o z => z.zc) fl3
      obtain ⟨k1, k2, k3, oe, vs, T, oT, ts', he, hz, hd, h1, hr⟩ := id fl3'
      unfold PySem.passOn
      refine wpAny_bind (wpAny_field he hd h1 ?_)
      rw [if_neg (show ¬ ((Value.ref T == Value.none) = true) from by simp)]
      have fin : wpAny (model X.prog X.w) X.A (setFlight (.ref a) X.env.frame) (fun _ s4 => wpAny (model X.prog X.w) X.A (throw (.ref a) : Sem Flow) (SP X pins D) X.xe s4) X.xe { s' with heap := h3 } := by
        rw [hf]
        refine HandSPX.setFlight_upZ fl3' fun h4 hh4 up4 => wpAny_throw (tk _ _ ?_)
        exact ⟨a, B, sI, pins, σ', H', cls, d, rfl, J, nb, (up.trans up3).trans up4, .inr (.inr (by rw [hs]; exact hh4)), na, os, ag, hno rfl⟩
      first
        | exact wpAny_bind (wpAny_pure (wpAny_bind fin))
        | exact wpAny_bind fin
  · cases f with
    | next => obtain ⟨σ', H', J', q⟩ := hsp; exact wpAny_execs_nil ⟨σ', H', J'.ofTry ok, q⟩
    | brk => obtain ⟨σ', H', J', q⟩ := hsp; exact ⟨σ', H', J'.ofTry ok, q⟩
    | cont => obtain ⟨σ', H', J', q⟩ := hsp; exact ⟨σ', H', J'.ofTry ok, q⟩
    | ret u => obtain ⟨v, σ', H', J', r, q⟩ := hsp; exact ⟨v, σ', H', J'.ofTry ok, r, q⟩
end
end L2H
namespace L2
open PySem PySem.Spec PyProof.Rows L2H HotX
section
variable {P : Program} {w : World} {K : PySem.W.Frag} {mg : Str → Option Value} {base : Heap}
/-- as Fun.okX, for a def whose exceptions have no context -/
theorem Fun.okN {x qual : Str} {st : Stmt} {f : Addr} {fd : FuncData} {N ps : List Str} {k : Nat} {sp : Sp} (F : Fun K x qual st f fd) (S : FnScope N ps (defScope st)) (len : ∀ vs H Q E, sp vs H Q E → vs.length = ps.length)
    (hbody : ∀ (cdv : Value) (A : Around) (outer : List Env) (s : Shared) (H : Hp) (vs : List V) (Q : VK) (E : XK), Room k (A.deeper (envOfC qual (defScope st) s.heap.objs.size f cdv)) → sp vs H Q E →
      ∃ t, PSs (cxOf (L2N.CX P w) P w K mg base N qual (defScope st) f cdv A outer s H E) (defBody st) t ∧ t { nx := fun _ H' => Q .non H', rt := Q } (start N vs) H) : FnOk P w K mg base (L2N.CX P w) (k + 1) f fd ps sp := by
  obtain ⟨oc, od, kV, doc, pm, an, cdv, ct, osl, rfl, lk, hcd⟩ := F.ex
  exact fn_of lk hcd S len fun A outer s H vs Q E hr hsp => hbody cdv A outer s H vs Q E hr hsp
theorem FnOk.toX {k : Nat} {f : Addr} {fd : FuncData} {ps : List Str} {sp : Sp} (F : FnOk P w K mg base (L2N.CX P w) k f fd ps sp) : FnOk P w K mg base (L2.CX P w) k f fd ps sp :=
  ⟨F.len, fun A outer s H args us vs Q E hr e b r h => codeAny_mono (F.run A outer s H args us vs Q E hr e b r h) fun r s' q => by
    cases r with
    | error e =>
      obtain ⟨a, B, H', cls, d, e1, fl, hok, ub, na, os, ag, hE⟩ := q
      exact ⟨a, B, H', cls, d, e1, flyingZ_imp (fun o z => z.zc) fl, hok, ub, na, os, ag, hE⟩
    | ok fl => cases fl <;> exact q⟩
theorem _root_.L2H.RoomH.u2 {k : Nat} {A : Around} (r : RoomH k A) : A.units + 2 < cLine := by have := r.un; omega
/-- a def's promise while an exception is handled -/
theorem Fun.okH {x qual : Str} {st : Stmt} {f : Addr} {fd : FuncData} {N ps : List Str} {k : Nat} {sp : Sp} (F : Fun K x qual st f fd) (S : FnScope N ps (defScope st)) (len : ∀ vs H Q E, sp vs H Q E → vs.length = ps.length)
    (hbody : ∀ (cdv : Value) (A : Around) (outer : List Env) (s : Shared) (H : Hp) (vs : List V) (Q : VK) (E : XK) (p : Addr × Obj), Hot1 A p → RoomH k (A.deeper (envOfC qual (defScope st) s.heap.objs.size f cdv)) → sp vs H Q E →
      ∃ t, PSs (cxH CX0 P w K mg base N qual (defScope st) f cdv A outer s H E p).nox (defBody st) t ∧ t { nx := fun _ H' => Q .non H', rt := Q } (start N vs) H) : FnH P w K mg base CX0 (k + 1) f fd ps sp := by
  obtain ⟨oc, od, kV, doc, pm, an, cdv, ct, osl, rfl, lk, hcd⟩ := F.ex
  refine fn_ofH lk hcd S len fun A outer s H vs Q E p hp hr hsp => ?_
  obtain ⟨t, h, q⟩ := hbody cdv A outer s H vs Q E p hp hr hsp
  exact ⟨t, h.nox, q⟩
theorem FunD.okH {x qual : Str} {params : Arguments} {body : List Stmt} {scope : Scope} {dvs : List V} {f : Addr} {fd : FuncData} {N ps : List Str} {k : Nat} {sp : Sp} (F : FunD K x qual params body scope dvs [] f fd) (S : FnScope N ps scope) (len : ∀ vs H Q E, sp vs H Q E → vs.length = ps.length)
    (hbody : ∀ (cdv : Value) (A : Around) (outer : List Env) (s : Shared) (H : Hp) (vs : List V) (Q : VK) (E : XK) (p : Addr × Obj), Hot1 A p → RoomH k (A.deeper (envOfC qual scope s.heap.objs.size f cdv)) → sp vs H Q E →
      ∃ t, PSs (cxH CX0 P w K mg base N qual scope f cdv A outer s H E p).nox body t ∧ t { nx := fun _ H' => Q .non H', rt := Q } (start N vs) H) : FnH P w K mg base CX0 (k + 1) f fd ps sp := by
  obtain ⟨⟨oc, od, dV, kV, doc, pm, an, cdv, ct, osl, rfl, lk, hcd, _⟩, _⟩ := F
  refine fn_ofH lk hcd S len fun A outer s H vs Q E p hp hr hsp => ?_
  obtain ⟨t, h, q⟩ := hbody cdv A outer s H vs Q E p hp hr hsp
  exact ⟨t, h.nox, q⟩
end
theorem hotC_cxH {CX : CXT} {P : Program} {w : World} {K : PySem.W.Frag} {mg : Str → Option Value} {base : Heap} {N : List Str} {qual : Str} {scope : Scope} {f : Addr} {cd : Value} {A : Around} {outer : List Env} {s : Shared} {H : Hp} {E : XK} {p : Addr × Obj} (h : Hot1 A p) :
    HotC (cxH CX P w K mg base N qual scope f cd A outer s H E p).nox := ⟨p, ⟨h.1, h.2⟩, List.mem_cons_self⟩
section
variable {X : Cx}
/-- C.m(e, ..) while an exception is handled -/
theorem pe_clsfH {CX : CXT} {k : Nat} {C f : Addr} {fd : FuncData} {ps : List Str} {mc : Value} {sp : Sp} {E : XK} {o e : Expr} {es : List Expr} {m : Str} {pos apos : Pos} {ta : TE} {t : TA} {pl : Sem Bool} (he : PE X o ta) (r : ClX.CRead X.K C mc) (at_ : PySem.W.findCls X.K (.ref C) mc m = some (.val (.ref f)))
    (F : FnH X.prog X.w X.K X.mg X.base CX k f fd ps sp) (hr : RoomH k X.A) (hc : HotC X) (hk : PySem.W.keepIn X.K (.ref f) = true) (hb : Binds X.K fd ps []) (hx : ∀ σ, PassesAt CX X σ E) (ha : PA X (e :: es) t)
    (hst : starEach (e :: es) X.env = (false, eval e X.env) :: starEach es X.env := by rfl) (hpl : (backTo pos (starEach es X.env)).any (·.1) = false := by rfl)
    (ht : eval (.Call (.Attribute o m apos) (e :: es) [] pos) X.env = (do
      let ov ← eval o X.env
      standAt apos.atName
      let (f, first) ← holding [ov] (getMethod ov m pl)
      callWith pos f first (backTo pos (starEach (e :: es) X.env)) (backToKw pos (keywordEach [] X.env))) := by rfl) :
    PE X (.Call (.Attribute o m apos) (e :: es) [] pos) (tClsF C sp E ta t) := by
  refine ⟨fun pins s σ H Q I h => ?_⟩
  refine PySem.W.methodCall_KW (pl := pl) (thn (he.run pins s σ H _ I h) fun u s1 ⟨x, H1, I1, rx, ex, q⟩ => ?_) ht
  subst ex
  obtain rfl : u = Value.ref C := rx
  refine PySem.W.method_cls I1.kIn r.ga (ClX.getcval_ok (v := .ref f) I1 r ⟨at_, rfl⟩ fun s2 I2 => ?_)
  refine PySem.W.callWith_K (h₀ := X.base) I2.ok.mod.kin hk (thn (ha.run pos pins s2 σ H1 _ I2 q) fun us s3 ⟨vs, H2, I3, rv, q2⟩ => ⟨I3.kIn, ?_⟩) hst hpl
  exact run_fnH (E := fun _ => E) F hr hc hb (hx σ) I3 rv q2
/-- C(e, ..), an exception with no context -/
theorem pmkN_oex {CX : CXT} {x : Str} {e : Expr} {es : List Expr} {ta : TA} {p pos : Pos} {C fI : Addr} {k : Nat} {fd : FuncData} {ps : List Str} {sp : Sp} {ds : List Value} {dvs : List V} (T : OexC X.K C) (iC : PySem.W.findIn X.K (.ref C) "__init__" = some (some (.ref fI))) (tI : PySem.W.typeIn X.K (.ref fI) = some (.type "function"))
    (F1 : FnOk X.prog X.w X.K X.mg X.base CX k fI fd ps sp) (hr : Room (k + 1) X.A) (hb : Binds X.K fd ps ds) (hd : Vals dvs ds) (hx : Passes CX X (fun _ _ _ => False)) (hg : Gl X x) (hm : X.mg x = some (.ref C)) (ha : PA X (e :: es) ta)
    (hdb : (x == ("__debug__" : Str)) = false := by decide) (he : starEach (e :: es) X.env = (false, eval e X.env) :: starEach es X.env := by rfl) (hpl : (backTo pos (starEach es X.env)).any (·.1) = false := by rfl) :
    L2N.PMk X (.Call (.Name x p) (e :: es) [] pos) (tMkO C sp dvs ta) := by
  intro pins s σ H Q I h
  obtain ⟨nm, q, N, bs, bm, sn, sub, ab, col, dd, k0, k1, k2, k3, k5, hC, hbm⟩ := T.cls
  refine wpAny_Call_Name_kw (ld_glob I hg hm ?_ hdb)
  refine PySem.W.callWith_K (h₀ := X.base) I.ok.mod.kin T.kC (thn (ha.run pos pins s σ H _ I h) fun us s1 ⟨vs, H1, I1, r1, hz, q1⟩ => ⟨I1.kIn, ?_⟩) he hpl
  show wpAny _ _ (call (.ref C) us) _ _ _
  obtain ⟨hp, g, dr, tk, os⟩ := s1
  have hsz : hp.objs.size ≤ hp.objs.size + 1 := Nat.le_succ _
  have hn : H1 (hp.objs.size + 1) = none := I1.hok.fresh hsz
  have hq := q1 (hp.objs.size + 1) hn
  have kk : ∀ b o, hp.get? b = some o → ((hp.push (PySem.W.kdv_tup us)).push (PySem.HandSPX.excO C hp.objs.size)).get? b = some o := fun b o e => Heap.get?_push_of_some _ (Heap.get?_push_of_some _ e)
  have hget : ((hp.push (PySem.W.kdv_tup us)).push (PySem.HandSPX.excO C hp.objs.size)).get? (hp.objs.size + 1) = some (PySem.HandSPX.excO C hp.objs.size) := by heap_get
  have I2 : Inv X pins σ (upd H1 (hp.objs.size + 1) (exo (hp.objs.size + 1) C none)) ⟨(hp.push (PySem.W.kdv_tup us)).push (PySem.HandSPX.excO C hp.objs.size), g, dr, tk, os⟩ :=
    I1.laid (t' := tk) (a := hp.objs.size + 1) (o := exo (hp.objs.size + 1) C none) (h' := (hp.push (PySem.W.kdv_tup us)).push (PySem.HandSPX.excO C hp.objs.size)) kk hsz (exo_ok hget)
  have r2 : Vals (V.ref (hp.objs.size + 1) :: (vs ++ dvs)) (Value.ref (hp.objs.size + 1) :: (us ++ ds)) := .cons rfl (r1.append hd)
  have hl : (Value.ref (hp.objs.size + 1) :: us ++ ds).length = ps.length := by
    have e := r2.length
    rw [F1.len _ _ _ _ hq] at e
    exact e.symm
  have hus : us.length ≤ sizeLine := by
    rw [← Paired.length r1, sizeLine_eq]
    omega
  refine wpAny_call (PySem.HandSPX.call_own F.excBase_ValueError (fun Y => PySem.HandSPX.refsVE_contains Y bm hbm) (I1.kIn _ _ hC) (PySem.W.looks_findIn I1.kIn iC) (fun self => PySem.W.bind_fn I1.kIn self tI) hus
    (codeAny_mono (F1.run _ X.stack _ _ ⟨Value.ref (hp.objs.size + 1) :: us, []⟩ (Value.ref (hp.objs.size + 1) :: (us ++ ds)) _ _ (fun _ _ _ => False) (hr.make C us []) (I2.env0.make C us []) (hb _ (Value.ref (hp.objs.size + 1) :: us) I2.kIn hl) r2 hq) fun r s' hq' => ?_))
  cases r with
  | error er => exact hx pins σ _ _ er s' I2 hq'
  | ok fl =>
    cases fl with
    | ret u =>
      obtain ⟨v, H2, os2, bare2, un2, hok2, rv, ev, d, fs, ea, ed, hd1, q2⟩ := hq'
      subst ev
      obtain ⟨h2, g2, d2, t2, os'⟩ := s'
      obtain ⟨t0, G, J, kG, ge, hoe, na⟩ := mk_end0 (d2 := d2) (t2 := t2) I1 hsz kk un2 hok2 os2 bare2 ea ed hd1
      refine ⟨rv, hp.objs.size + 1, _, _, ⟨G, g2, d2, t2, os'⟩, _, .ref C, some d, rfl, J, kG, ge, hoe, ⟨rfl, rfl, fun vs hv => ?_⟩, rfl, rfl, na, rfl, bare2, raises_own T.exC T.tyC, q2⟩
      cases hv
      rfl
    | next => exact False.elim hq'
    | brk => exact False.elim hq'
    | cont => exact False.elim hq'
theorem pass0H {X : Cx} {E : XK} : ∀ σ, PassesAt CX0 X σ E := fun _ _ _ _ _ _ _ h => h.elim
end
end L2
namespace K
open PySem PySem.Spec PyProof.Rows L2
open Sw (T3 Dist at? relax roundOf rounds IsNext Cand IsFar nbr candL WayTo lotOf)
/-- a def whose exceptions have no context, as it can be called -/
structure CalN (P : Program) (w : World) (K : PySem.W.Frag) (mg : Str → Option Value) (base : Heap) (k : Nat) (x : Str) (f : Addr) (fd : FuncData) (ps : List Str) (sp : Sp) : Prop where
  ok : FnOk P w K mg base (L2N.CX P w) k f fd ps sp
  g : mg x = some (.ref f)
  kp : PySem.W.keepIn K (.ref f) = true
  b : Binds K fd ps []
theorem CalN.x {P : Program} {w : World} {K : PySem.W.Frag} {mg : Str → Option Value} {base : Heap} {k : Nat} {x : Str} {f : Addr} {fd : FuncData} {ps : List Str} {sp : Sp} (h : CalN P w K mg base k x f fd ps sp) : CalX P w K mg base k x f fd ps sp := ⟨h.ok.toX, h.g, h.kp, h.b⟩
/-- a refusal's class with the promise of its __init__ while an exception is handled -/
structure ExcH (P : Program) (w : World) (K : PySem.W.Frag) (mg : Str → Option Value) (base : Heap) (k : Nat) (x : Str) (C fI : Addr) (fd : FuncData) (ps : List Str) (sp : Sp) : Prop where
  t : ExcT K mg x C fI
  ok : L2H.FnH P w K mg base CX0 k fI fd ps sp
  b : Binds K fd ps []
/-- C(i, j) of two ints -/
def spIn2 (K : PySem.W.Frag) (f g wd : Str) : Sp := fun vs H Q _ => ∃ (a C : Addr) (i j : Int), vs = [.ref a, .int i, .int j] ∧ i.natAbs.log2 < 1920 ∧ j.natAbs.log2 < 1920 ∧ OexC K C ∧ PySem.W.findIn K (.ref C) "word" = some none ∧ PySem.W.findIn K (.ref C) f = some none ∧ PySem.W.findIn K (.ref C) g = some none ∧ H a = some (exo a C none) ∧
  ∀ (dx : Addr) (H' : Hp), H dx = none → dx ≠ a → (∀ b o, H b = some o → b ≠ a → H' b = some o) → H' a = some (exo a C (some dx)) → H' dx = some (exd dx [(g, .int j), (f, .int i), ("word", .str wd)]) → Q .non H'
def TieX (CT : Addr) (i j : Int) (H : Hp) (E : XK) : Prop := ∀ (d : Addr) (H' : Hp), H d = none → Same H H' → H' d = some (.xd [("other", .int j), ("one", .int i), ("word", .str "notie")]) → E (.ref CT) (some d) H'
/-- the ties but those that join u and v -/
def lft (ts : List T3) (u v : Nat) : List T3 := ts.filter fun e => !((e.1 == u && e.2.1 == v) || (e.2.1 == u && e.1 == v))
theorem lft_sub {ts : List T3} {u v : Nat} : ∀ e ∈ lft ts u v, e ∈ ts := fun e m => (List.mem_filter.mp m).1
theorem lft_len (ts : List T3) (u v : Nat) : (lft ts u v).length ≤ ts.length := List.length_filter_le _ _
theorem lft_fits {n : Nat} {ts : List T3} {u v : Nat} (h : Fits n ts) : Fits n (lft ts u v) := fun e m => h e (lft_sub e m)
theorem lft_good {n : Nat} {ts : List T3} {u v : Nat} (h : Good n ts) : Good n (lft ts u v) := fun e m => h e (lft_sub e m)
def spWithout : Sp := fun vs H Q _ => ∃ (u v : Nat) (t : Addr) (ts : List T3), vs = [.ref t, .int (u : Nat), .int (v : Nat)] ∧ TiesAt H t ts ∧ ts.length ≤ 400 ∧ ∀ p H', H p = none → Same H H' → TiesAt H' p (lft ts u v) → Q (.ref p) H'
def spRoundX (CH CT CL : Addr) : Sp := fun vs H Q E => ∃ (n : Nat) (s g : Int) (t : Addr) (ts : List T3), vs = [.int (n : Nat), .ref t, .int s, .int g] ∧ n ≤ 9 ∧ s.natAbs.log2 < 1920 ∧ g.natAbs.log2 < 1920 ∧ TiesAt H t ts ∧ ts.length ≤ 400 ∧ Fits n ts ∧ (∀ e ∈ ts, 1 ≤ e.2.2 ∧ e.2.2 ≤ 9) ∧
  (¬ (0 ≤ s ∧ s < n) → HouseX CH s H E) ∧ (0 ≤ s ∧ s < n → ¬ (0 ≤ g ∧ g < n) → HouseX CH g H E) ∧ (0 ≤ s ∧ s < n → g = s → TieX CT s g H E) ∧
  (∀ s' g' : Nat, s = s' → g = g' → s' < n → g' < n → s' ≠ g' → at? (farD n (lft ts s' g') g') s' = none → LotX CL "lone" (lotOf n (farD n (lft ts s' g') s')) H E) ∧
  (∀ (s' g' c : Nat) (way : List Nat), s = s' → g = g' → s' < n → g' < n → s' ≠ g' → at? (farD n (lft ts s' g') g') s' = some c → WayTo (both (lft ts s' g')) (farD n (lft ts s' g') g') g' s' way → way.length ≤ 100 → ∀ p H', H p = none → Same H H' → PriceWay H' p c way → Q (.ref p) H')
end K
namespace L2
open PySem PySem.Spec PyProof.Rows
section
variable {X : Cx}
/-- x not in a tuple of data -/
def rNotInDT (K : PySem.W.Frag) : R2 := fun x y H Q => ∃ d ds, Dp K H x d ∧ Dp K H y (.tuple ds) ∧ SeqAt.shaped d = true ∧ SeqAt.shaped (.tuple ds) = true ∧ Q (.bl (!ds.any fun z => PyData.eqv z d)) H
theorem op_notInDT (hu : X.A.units + 65 < cLine) : OpR X (compareOp .NotIn) (rNotInDT X.K) := by
  intro pins s σ H x y v u Q I rx ry h
  obtain ⟨d, ds, hd, he, sd, se, q⟩ := h
  obtain ⟨as, r1⟩ := Dp.reads I d x v hd rx
  obtain ⟨bs, r2⟩ := Dp.reads I (.tuple ds) y u he ry
  exact SeqAt.notIn_tuple_reads r2 r1 (SeqAt.canLay_of_shaped se) (SeqAt.canLay_of_shaped sd) (room_in_shaped sd hu) ⟨.bl _, H, I, rfl, q⟩
end
end L2
namespace K
open PySem PySem.Spec PyProof.Rows L2
def pairD (i j : Int) : PyData := .tuple [.int i, .int j]
theorem pair_shaped (i j : Int) : SeqAt.shaped (pairD i j) = true := by
  unfold SeqAt.shaped pairD
  simp [PyData.canLay0, PyData.canLayAll0, PyData.depth, PyData.depthAll]
theorem pairs_shaped (i j k l : Int) : SeqAt.shaped (.tuple [pairD i j, pairD k l]) = true := by
  unfold SeqAt.shaped pairD
  simp [PyData.canLay0, PyData.canLayAll0, PyData.depth, PyData.depthAll]
theorem pair_eqv (i j k l : Int) : PyData.eqv (pairD i j) (pairD k l) = decide (i = k ∧ j = l) := by
  simp [pairD, PyData.eqv, PyData.eqvAll, Bool.beq_eq_decide_eq]
theorem dp_pair {K : PySem.W.Frag} {H : Hp} {p : Addr} {i j : Int} (h : H p = some (.tup [.int i, .int j])) : Dp K H (.ref p) (pairD i j) := .tup (SqT.of h) (.cons (.int _) (.cons (.int _) .nil))
end K

namespace K
open PySem PySem.Spec PyProof.Rows L2
def top (i : Nat) : Stmt := PySem.Challenge.pw_swapslip_k06_ways_round_ties.main.body.getD i (.Pass ⟨0, 0, 0, 0⟩)
abbrev sBox : Stmt := top 18
abbrev sTake : Stmt := top 19
section
variable {P : Program} {w : World} {K : PySem.W.Frag} {mg : Str → Option Value} {base : Heap}
theorem scBox : FnScope ["_law_script"] ["_law_script"] (defScope sBox) := ⟨rfl, rfl, rfl, by decide +kernel, rfl, by decide +kernel, by decide +kernel⟩
theorem ok_box {f : Addr} {fd : FuncData} {k : Nat} (F : Fun K "_law_box" "_law_box" sBox f fd) (ml : mg "list" = none) : FnOk P w K mg base CX0 (k + 1) f fd ["_law_script"] (spBox K) := by
  refine F.ok scBox (fun vs H Q E h => ?_) (fun cdv A outer s H vs Q E hr h => ?_)
  · obtain ⟨a, ns, rfl, _⟩ := h
    rfl
  · obtain ⟨a, ns, rfl, hS, hlen, q⟩ := h
    refine ⟨_, pss_one (ps_ret (pe_lst (pa_cons (pe_callTy call_list_of (by rfl) ml (by decide +kernel) (pa_cons (pe_slice sl_list (pv 0) po_none (po_some pe_int)) pa_nil)) (pa_cons pe_int (pa_cons pe_int (pa_cons pe_int pa_nil)))))), ?_⟩
    refine ⟨.ref a, rfl, 63, rfl, a, _, rfl, hS, fun c nc => ?_⟩
    refine ⟨c, _, rfl, .inl (.inl (.inl upd_same)), fun l nl => ?_⟩
    refine ⟨(by show 4 ≤ sizeLine; decide), fun p np => ?_⟩
    have e : ∃ ms : List Int, cutV (ns.map V.int) none (some 63) = ms.map V.int ∧ ms.length ≤ 63 := by
      refine ⟨(ns.drop (HT.sIx ns.length 0 none)).take (HT.sIx ns.length ns.length (some 63) - HT.sIx ns.length 0 none), ?_, ?_⟩
      · unfold cutV
        rw [List.length_map, ← List.map_drop, ← List.map_take]
      · rw [List.length_take, List.length_drop]; omega
    obtain ⟨ms, em, hm⟩ := e
    rw [em] at nl np ⊢
    have s1 := same_upd (o := .lst (ms.map V.int)) nc
    have s2 := same_upd (o := .lst (ms.map V.int)) nl
    have s3 := same_upd (o := .lst [.ref l, .int 0, .int 0, .int 29]) np
    have nlp : l ≠ p := ne_of_none upd_same np
    refine q p l _ (s1.free (s2.free np)) (s1.free nl) ⟨ms, 0, 0, 29, upd_same, ?_, by omega, by omega, by omega, by omega, hm⟩ (s1.trans (s2.trans s3))
    rw [upd_ne nlp, upd_same]
theorem scTake : FnScope ["_law_box_here", "_law_sides", "_law_tail", "_law_cell", "_law_seed"] ["_law_box_here", "_law_sides"] (defScope sTake) := ⟨rfl, rfl, rfl, by decide +kernel, rfl, by decide +kernel, by decide +kernel⟩
theorem ok_take {f : Addr} {fd : FuncData} {k : Nat} (F : Fun K "_law_take" "_law_take" sTake f fd) (mlen : mg "len" = none) : FnOk P w K mg base CX0 (k + 1) f fd ["_law_box_here", "_law_sides"] spTake := by
  refine F.ok scTake (fun vs H Q E h => ?_) (fun cdv A outer s H vs Q E hr h => ?_)
  · obtain ⟨p, q, n, rfl, _⟩ := h
    rfl
  · obtain ⟨p, q, n, rfl, hB, hn, hn2, kk⟩ := h
    refine ⟨_, pss_cons (ps_if (pt_cmpR op_gt (pe_ix ix_list (pv 0) pe_int (fun _ _ => rfl)) pe_int (nomark _))
        (pss_cons (ps_set (i := 2) scTake.nd rfl (.inl rfl) (pe_ix ix_list (pv 0) pe_int (fun _ _ => rfl)))
        (pss_cons (ps_asg (pe_op op_fdivN (pv 2) (pv 1)) (pg_sub (pv 0) pe_int set_list))
        (pss_one (ps_ret (pe_op op_modN (pv 2) (pv 1)))))) pss_nil)
      (pss_cons (ps_set (i := 3) scTake.nd rfl (.inl rfl) pe_int)
      (pss_cons (ps_if (pt_cmpR op_lt (pe_ix ix_list (pv 0) pe_int (fun _ _ => rfl)) (pe_callB call_len_seq (by rfl) mlen PySem.boot_len (pa_cons (pe_ix ix_list (pv 0) pe_int (fun _ _ => rfl)) pa_nil)) (nomark _))
        (pss_cons (ps_set (i := 3) scTake.nd rfl (.inl rfl) (pe_ix ix_list (pe_ix ix_list (pv 0) pe_int (fun _ _ => rfl)) (pe_ix ix_list (pv 0) pe_int (fun _ _ => rfl)) (fun _ _ => rfl)))
        (pss_one (ps_augS (pv 0) pe_int get_listA pe_int ip_add set_list))) pss_nil)
      (pss_cons (ps_if (pt_cmpR op_ge (pv 3) (pe_op op_pow pe_int pe_int) (nomark _))
        (pss_cons (ps_asg (pe_op op_fdivN (pv 3) (pv 1)) (pg_sub (pv 0) pe_int set_list))
        (pss_one (ps_ret (pe_op op_modN (pv 3) (pv 1))))) pss_nil)
      (pss_cons (ps_set (i := 4) scTake.nd rfl (.inl rfl) (pe_ix ix_list (pv 0) pe_int (fun _ _ => rfl)))
      (pss_cons (ps_asg (pe_op op_modN (pe_op op_add (pe_op op_add (pe_op op_add (pe_op op_pow (pv 4) pe_int) (pe_op op_mul pe_int (pv 4))) (pe_op op_mul pe_int (pe_op op_modN (pv 3) pe_int))) pe_int) pe_int) (pg_sub (pv 0) pe_int set_list))
      (pss_one (ps_ret (pe_op op_modN (pe_op op_fdivN (pe_ix ix_list (pv 0) pe_int (fun _ _ => rfl)) pe_int) (pv 1))))))))), ?_⟩
    obtain ⟨ns, i, t, sd, h1, h2, hi0, hi1, hs0, hs1, hl⟩ := id hB
    have npq := hB.ne
    refine ⟨_, rfl, p, _, 2, _, rfl, rfl, SqL.of h1, rfl, _, _, rfl, rfl, _, rfl, ?_⟩
    refine ite2 (fun c => ?_) (fun c => ?_)
    · refine ⟨_, rfl, p, _, 2, _, rfl, rfl, SqL.of h1, rfl, ?_⟩
      refine ⟨_, rfl, _, rfl, t, n, rfl, rfl, ⟨by omega, by omega⟩, _, rfl, p, _, 2, 2, rfl, rfl, h1, rfl, ?_⟩
      refine ⟨_, rfl, _, rfl, t, n, rfl, rfl, (by show n ≠ 0; omega), ?_⟩
      refine kk _ _ (fmod_le hn).1 (fmod_le hn).2 ⟨ns, i, _, sd, upd_same, by rw [upd_ne npq.symm]; exact h2, hi0, hi1, hs0, hs1, hl⟩ But.put
    · -- the cell: some int, the box with another place
      refine ⟨_, rfl, p, _, 1, _, rfl, rfl, SqL.of h1, rfl, _, rfl, p, _, 0, _, rfl, rfl, SqL.of h1, rfl, q, _, rfl, .inl (SqL.of h2), _, _, rfl, rfl, _, rfl, ?_⟩
      rw [List.length_map]
      refine ite2 (fun c => ?_) (fun c => ?_)
      · have hlt : i.toNat < ns.length := by have := of_decide_eq_true c; omega
        have hat : (ns.map V.int)[i.toNat]? = some (.int ns[i.toNat]) := by rw [List.getElem?_map, List.getElem?_eq_getElem hlt]; rfl
        refine ⟨_, rfl, p, _, 0, _, rfl, rfl, SqL.of h1, rfl, _, rfl, p, _, 1, _, rfl, rfl, SqL.of h1, rfl, q, _, i, _, rfl, rfl, SqL.of h2, atI0 hi0 hat, ?_⟩
        refine ⟨_, rfl, p, _, 1, _, rfl, rfl, SqL.of h1, by omega, rfl, i, 1, rfl, rfl, p, _, 1, 1, rfl, rfl, h1, rfl, ?_⟩
        generalize ns[i.toNat] = cell
        have g1 : (upd H p (.lst [.ref q, .int (i + 1), .int t, .int sd])) p = some (.lst [.ref q, .int (i + 1), .int t, .int sd]) := upd_same
        have g2 : (upd H p (.lst [.ref q, .int (i + 1), .int t, .int sd])) q = some (.lst (ns.map V.int)) := by rw [upd_ne npq.symm]; exact h2
        have gi0 : 0 ≤ i + 1 := by omega
        have gi1 : i + 1 ≤ ns.length := by omega
        have gb : But p H (upd H p (.lst [.ref q, .int (i + 1), .int t, .int sd])) := But.put
        show tSeq _ _ _ _ (upd H p (.lst [.ref q, .int (i + 1), .int t, .int sd]))
        generalize upd H p (.lst [.ref q, .int (i + 1), .int t, .int sd]) = H2 at g1 g2 gb ⊢
        generalize i + 1 = i2 at g1 gi0 gi1
        refine ⟨_, rfl, 10, 18, rfl, rfl, ⟨by decide, by decide, by decide⟩, _, _, rfl, rfl, _, rfl, ?_⟩
        refine ite2 (fun c2 => ?_) (fun c2 => ?_)
        · refine ⟨_, rfl, _, rfl, _, n, rfl, rfl, ⟨by omega, by omega⟩, _, rfl, p, _, 2, 2, rfl, rfl, g1, rfl, ?_⟩
          refine ⟨_, rfl, _, rfl, _, n, rfl, rfl, (by show n ≠ 0; omega), ?_⟩
          exact kk _ _ (fmod_le hn).1 (fmod_le hn).2 ⟨ns, _, _, sd, upd_same, by rw [upd_ne npq.symm]; exact g2, gi0, gi1, hs0, hs1, hl⟩ (gb.trans But.put)
        · refine ⟨_, rfl, p, _, 3, _, rfl, rfl, SqL.of g1, rfl, ?_⟩
          refine ⟨_, rfl, sd, 3, rfl, rfl, ⟨by decide, by decide, by omega⟩, _, rfl, 69621, sd, rfl, rfl, .inl ⟨by decide, by decide⟩, _, _, rfl, rfl, _, rfl, _, 2147483549, rfl, rfl, (by decide : (2147483549 : Int) ≠ 0),
            48271, _, rfl, rfl, .inl ⟨by decide, by decide⟩, _, _, rfl, rfl, _, _, rfl, rfl, _, 2147483549, rfl, rfl, (by decide : (2147483549 : Int) ≠ 0), _, rfl, p, _, 3, 3, rfl, rfl, g1, rfl, ?_⟩
          refine ⟨_, rfl, p, _, 3, _, rfl, rfl, SqL.of upd_same, rfl, _, 64, rfl, rfl, ⟨by decide, by decide⟩, _, rfl, _, n, rfl, rfl, (by show n ≠ 0; omega), ?_⟩
          exact kk _ _ (fmod_le hn).1 (fmod_le hn).2 ⟨ns, _, _, _, upd_same, by rw [upd_ne npq.symm]; exact g2, gi0, gi1, (fmod_le (by decide)).1, (fmod_le (by decide)).2, hl⟩ (gb.trans But.put)
      · have g1 := h1
        have g2 := h2
        have gi0 := hi0
        have gi1 := hi1
        have gb := But.refl p H
        refine ⟨_, rfl, 10, 18, rfl, rfl, ⟨by decide, by decide, by decide⟩, _, _, rfl, rfl, _, rfl, ?_⟩
        refine ite2 (fun c2 => ?_) (fun c2 => ?_)
        · refine ⟨_, rfl, _, rfl, _, n, rfl, rfl, ⟨by omega, by omega⟩, _, rfl, p, _, 2, 2, rfl, rfl, g1, rfl, ?_⟩
          refine ⟨_, rfl, _, rfl, _, n, rfl, rfl, (by show n ≠ 0; omega), ?_⟩
          exact kk _ _ (fmod_le hn).1 (fmod_le hn).2 ⟨ns, _, _, sd, upd_same, by rw [upd_ne npq.symm]; exact g2, gi0, gi1, hs0, hs1, hl⟩ (gb.trans But.put)
        · refine ⟨_, rfl, p, _, 3, _, rfl, rfl, SqL.of g1, rfl, ?_⟩
          refine ⟨_, rfl, sd, 3, rfl, rfl, ⟨by decide, by decide, by omega⟩, _, rfl, 69621, sd, rfl, rfl, .inl ⟨by decide, by decide⟩, _, _, rfl, rfl, _, rfl, _, 2147483549, rfl, rfl, (by decide : (2147483549 : Int) ≠ 0),
            48271, _, rfl, rfl, .inl ⟨by decide, by decide⟩, _, _, rfl, rfl, _, _, rfl, rfl, _, 2147483549, rfl, rfl, (by decide : (2147483549 : Int) ≠ 0), _, rfl, p, _, 3, 3, rfl, rfl, g1, rfl, ?_⟩
          refine ⟨_, rfl, p, _, 3, _, rfl, rfl, SqL.of upd_same, rfl, _, 64, rfl, rfl, ⟨by decide, by decide⟩, _, rfl, _, n, rfl, rfl, (by show n ≠ 0; omega), ?_⟩
          exact kk _ _ (fmod_le hn).1 (fmod_le hn).2 ⟨ns, _, _, _, upd_same, by rw [upd_ne npq.symm]; exact g2, gi0, gi1, (fmod_le (by decide)).1, (fmod_le (by decide)).2, hl⟩ (gb.trans But.put)
end
end K

namespace K
open PySem PySem.Spec PyProof.Rows L2
abbrev sSame : Stmt := top 20
section
variable {P : Program} {w : World} {K : PySem.W.Frag} {mg : Str → Option Value} {base : Heap}
theorem scSame : FnScope ["_law_found", "_law_due", "_law_x", "_law_y"] ["_law_found", "_law_due"] (defScope sSame) := ⟨rfl, rfl, rfl, by decide +kernel, rfl, by decide +kernel, by decide +kernel⟩
structure SameTxt (mg : Str → Option Value) : Prop where
  isi : mg "isinstance" = none
  lst : mg "list" = none
  tup : mg "tuple" = none
  bool : mg "bool" = none
  int : mg "int" = none
  str : mg "str" = none
  len : mg "len" = none
  all : mg "all" = none
  zip : mg "zip" = none
theorem ok_same {f : Addr} {fd : FuncData} (F : Fun K "_law_same" "_law_same" sSame f fd) (T : SameTxt mg) (gf : mg "_law_same" = some (.ref f)) (b : Binds K fd ["_law_found", "_law_due"] []) : ∀ n : Nat, FnOk P w K mg base CX0 n f fd ["_law_found", "_law_due"] (spSame n)
  | 0 => fnok_never fun vs H Q E ⟨x, y, _, h, _⟩ => h
  | n + 1 => by
    have G := ok_same F T gf b n
    refine F.ok scSame (fun vs H Q E h => ?_) (fun cdv A outer s H vs Q E hr h => ?_)
    · obtain ⟨x, y, rfl, _⟩ := h
      rfl
    · obtain ⟨x, y, rfl, hE, kk⟩ := h
      refine ⟨_, pss_cons (ps_if (pt_val (pe_callB call_isiT (by rfl) T.isi (by decide +kernel) (pa_cons (pv 1) (pa_cons (pe_tup (pa_cons (pe_bltn (v := .ty "list") (by rfl) T.lst (by decide +kernel) rfl) (pa_cons (pe_bltn (v := .ty "tuple") (by rfl) T.tup (by decide +kernel) rfl) pa_nil))) pa_nil))))
          (pss_cons (ps_if (PW.pt (pw_or (pt_cmpR op_ne (pe_callB call_isi (by rfl) T.isi (by decide +kernel) (pa_cons (pv 0) (pa_cons (pe_bltn (v := .ty "list") (by rfl) T.lst (by decide +kernel) rfl) pa_nil)))
                (pe_callB call_isi (by rfl) T.isi (by decide +kernel) (pa_cons (pv 1) (pa_cons (pe_bltn (v := .ty "list") (by rfl) T.lst (by decide +kernel) rfl) pa_nil))) (nomark _))
              (pw_or1 (pt_cmpR op_ne (pe_callB call_isi (by rfl) T.isi (by decide +kernel) (pa_cons (pv 0) (pa_cons (pe_bltn (v := .ty "tuple") (by rfl) T.tup (by decide +kernel) rfl) pa_nil)))
                (pe_callB call_isi (by rfl) T.isi (by decide +kernel) (pa_cons (pv 1) (pa_cons (pe_bltn (v := .ty "tuple") (by rfl) T.tup (by decide +kernel) rfl) pa_nil))) (nomark _))))) (pss_one (ps_ret pe_bl)) pss_nil)
          (pss_one (ps_ret (pe_and (pe_cmpR op_eq (pe_callB call_len_seq (by rfl) T.len PySem.boot_len (pa_cons (pv 0) pa_nil)) (pe_callB call_len_seq (by rfl) T.len PySem.boot_len (pa_cons (pv 1) pa_nil)) (nomark _))
            (pe_one (pe_callB (cr_all rfl) (by rfl) T.all (by decide +kernel) (pa_cons (pe_lc (own := [("_law_x", 2), ("_law_y", 3)]) (g := gTup K 2 (gCons (gName 2) (gCons (gName 3) gNil))) (tt := tYes) rfl scSame.nd (RZ.pi_zipA (by rfl) T.zip (pa_cons (pv 0) (pa_cons (pv 1) pa_nil)))
                (blkOk_by (own := [("_law_x", 2), ("_law_y", 3)]) (N := ["_law_found", "_law_due", "_law_x", "_law_y"]) (sc := defScope sSame) (by decide +kernel))
                (fun _ _ _ _ _ => by exact (pg_tup rfl (pgs_cons (pg_name (i := 2) scSame.nd rfl (Or.inl rfl)) (pgs_cons (pg_name (i := 3) scSame.nd rfl (Or.inl rfl)) pgs_nil)))) (fun _ _ _ _ _ => pts_nil)
                (fun _ _ _ _ _ => pe_call G hr (by rfl) gf F.kp b .nil pass0 (pa_cons (pv 2) (pa_cons (pv 3) pa_nil)))) pa_nil))))))) pss_nil)
        (pss_cons (ps_if (PW.pt (pw_or (pt_cmpR op_ne (pe_cmpR op_isN (pv 0) pe_non (nomark _)) (pe_cmpR op_isN (pv 1) pe_non (nomark _)) (nomark _))
            (pw_or1 (pt_cmpR op_ne (pe_callB call_isi (by rfl) T.isi (by decide +kernel) (pa_cons (pv 0) (pa_cons (pe_bltn (v := .ty "bool") (by rfl) T.bool (by decide +kernel) rfl) pa_nil)))
                (pe_callB call_isi (by rfl) T.isi (by decide +kernel) (pa_cons (pv 1) (pa_cons (pe_bltn (v := .ty "bool") (by rfl) T.bool (by decide +kernel) rfl) pa_nil))) (nomark _))))) (pss_one (ps_ret pe_bl)) pss_nil)
        (pss_cons (ps_if (pt_cmpR op_ne (pe_callB call_isi (by rfl) T.isi (by decide +kernel) (pa_cons (pv 0) (pa_cons (pe_bltn (v := .ty "int") (by rfl) T.int (by decide +kernel) rfl) pa_nil)))
                (pe_callB call_isi (by rfl) T.isi (by decide +kernel) (pa_cons (pv 1) (pa_cons (pe_bltn (v := .ty "int") (by rfl) T.int (by decide +kernel) rfl) pa_nil))) (nomark _)) (pss_one (ps_ret pe_bl)) pss_nil)
        (pss_one (ps_ret (pe_and (pe_cmpR op_eq (pe_callB call_isi (by rfl) T.isi (by decide +kernel) (pa_cons (pv 0) (pa_cons (pe_bltn (v := .ty "str") (by rfl) T.str (by decide +kernel) rfl) pa_nil)))
                (pe_callB call_isi (by rfl) T.isi (by decide +kernel) (pa_cons (pv 1) (pa_cons (pe_bltn (v := .ty "str") (by rfl) T.str (by decide +kernel) rfl) pa_nil))) (nomark _)) (pe_one (pe_cmpR op_eq (pv 0) (pv 1) (nomark _)))))))), ?_⟩
      refine ⟨_, rfl, (by show 2 ≤ sizeLine; decide), fun t nt => ?_⟩
      have s0 : Same H (upd H t (.tup [.ty "list", .ty "tuple"])) := same_upd nt
      have hE1 := Eqv.same s0 hE
      have ht : (upd H t (.tup [.ty "list", .ty "tuple"])) t = some (.tup [.ty "list", .ty "tuple"]) := upd_same
      rcases hE1 with ⟨e, hf⟩ | ⟨a1, a2, xs, ys, rfl, rfl, hab, hl, hz, hi⟩
      · -- flat
        subst e
        cases x with
        | non =>
          refine ⟨_, t, [.ty "list", .ty "tuple"], _, [.type "list", .type "tuple"], false, rfl, ht, .cons (.ty _) (.cons (.ty _) .nil), (.base .non), kit2 (b := false) (c := false) (by decide +kernel) (by decide +kernel), ?_⟩
          refine ⟨_, rfl, iteF ?_⟩
          refine ⟨_, rfl, rfl, _, rfl, rfl, rfl, _, rfl, iteNS rfl ?_⟩
          refine ⟨_, rfl, _, _, _, _, false, rfl, .ty _, (.base .non), kit_ty (by decide +kernel), ?_⟩
          refine ⟨_, rfl, _, _, _, _, false, rfl, .ty _, (.base .non), kit_ty (by decide +kernel), ?_⟩
          refine ⟨rfl, _, rfl, iteNS rfl ?_⟩
          refine ⟨_, rfl, _, _, _, _, false, rfl, .ty _, (.base .non), kit_ty (by decide +kernel), ?_⟩
          refine ⟨_, rfl, _, _, _, _, false, rfl, .ty _, (.base .non), kit_ty (by decide +kernel), ?_⟩
          refine ⟨rfl, _, rfl, iteNS rfl ?_⟩
          refine ⟨_, rfl, _, _, _, _, false, rfl, .ty _, (.base .non), kit_ty (by decide +kernel), ?_⟩
          refine ⟨_, rfl, _, _, _, _, false, rfl, .ty _, (.base .non), kit_ty (by decide +kernel), ?_⟩
          refine ⟨rfl, _, rfl, ?_⟩
          rw [decide_eq_true rfl]
          refine iteT ⟨_, rfl, _, rfl, rfl, ?_⟩
          rw [decide_eq_true rfl]
          exact kk _ s0
        | bl v =>
          refine ⟨_, t, [.ty "list", .ty "tuple"], _, [.type "list", .type "tuple"], false, rfl, ht, .cons (.ty _) (.cons (.ty _) .nil), (.base (.bl v)), kit2 (b := false) (c := false) (by decide +kernel) (by decide +kernel), ?_⟩
          refine ⟨_, rfl, iteF ?_⟩
          refine ⟨_, rfl, rfl, _, rfl, rfl, rfl, _, rfl, iteNS rfl ?_⟩
          refine ⟨_, rfl, _, _, _, _, true, rfl, .ty _, (.base (.bl v)), kit_ty (by decide +kernel), ?_⟩
          refine ⟨_, rfl, _, _, _, _, true, rfl, .ty _, (.base (.bl v)), kit_ty (by decide +kernel), ?_⟩
          refine ⟨rfl, _, rfl, iteNS rfl ?_⟩
          refine ⟨_, rfl, _, _, _, _, true, rfl, .ty _, (.base (.bl v)), kit_ty (by decide +kernel), ?_⟩
          refine ⟨_, rfl, _, _, _, _, true, rfl, .ty _, (.base (.bl v)), kit_ty (by decide +kernel), ?_⟩
          refine ⟨rfl, _, rfl, iteNS rfl ?_⟩
          refine ⟨_, rfl, _, _, _, _, false, rfl, .ty _, (.base (.bl v)), kit_ty (by decide +kernel), ?_⟩
          refine ⟨_, rfl, _, _, _, _, false, rfl, .ty _, (.base (.bl v)), kit_ty (by decide +kernel), ?_⟩
          refine ⟨rfl, _, rfl, ?_⟩
          rw [decide_eq_true rfl]
          refine iteT ⟨_, rfl, _, rfl, rfl, ?_⟩
          rw [decide_eq_true rfl]
          exact kk _ s0
        | int v =>
          refine ⟨_, t, [.ty "list", .ty "tuple"], _, [.type "list", .type "tuple"], false, rfl, ht, .cons (.ty _) (.cons (.ty _) .nil), (.base (.int v)), kit2 (b := false) (c := false) (by decide +kernel) (by decide +kernel), ?_⟩
          refine ⟨_, rfl, iteF ?_⟩
          refine ⟨_, rfl, rfl, _, rfl, rfl, rfl, _, rfl, iteNS rfl ?_⟩
          refine ⟨_, rfl, _, _, _, _, false, rfl, .ty _, (.base (.int v)), kit_ty (by decide +kernel), ?_⟩
          refine ⟨_, rfl, _, _, _, _, false, rfl, .ty _, (.base (.int v)), kit_ty (by decide +kernel), ?_⟩
          refine ⟨rfl, _, rfl, iteNS rfl ?_⟩
          refine ⟨_, rfl, _, _, _, _, true, rfl, .ty _, (.base (.int v)), kit_ty (by decide +kernel), ?_⟩
          refine ⟨_, rfl, _, _, _, _, true, rfl, .ty _, (.base (.int v)), kit_ty (by decide +kernel), ?_⟩
          refine ⟨rfl, _, rfl, iteNS rfl ?_⟩
          refine ⟨_, rfl, _, _, _, _, false, rfl, .ty _, (.base (.int v)), kit_ty (by decide +kernel), ?_⟩
          refine ⟨_, rfl, _, _, _, _, false, rfl, .ty _, (.base (.int v)), kit_ty (by decide +kernel), ?_⟩
          refine ⟨rfl, _, rfl, ?_⟩
          rw [decide_eq_true rfl]
          refine iteT ⟨_, rfl, _, rfl, rfl, ?_⟩
          rw [decide_eq_true rfl]
          exact kk _ s0
        | str v =>
          refine ⟨_, t, [.ty "list", .ty "tuple"], _, [.type "list", .type "tuple"], false, rfl, ht, .cons (.ty _) (.cons (.ty _) .nil), (.base (.str v)), kit2 (b := false) (c := false) (by decide +kernel) (by decide +kernel), ?_⟩
          refine ⟨_, rfl, iteF ?_⟩
          refine ⟨_, rfl, rfl, _, rfl, rfl, rfl, _, rfl, iteNS rfl ?_⟩
          refine ⟨_, rfl, _, _, _, _, false, rfl, .ty _, (.base (.str v)), kit_ty (by decide +kernel), ?_⟩
          refine ⟨_, rfl, _, _, _, _, false, rfl, .ty _, (.base (.str v)), kit_ty (by decide +kernel), ?_⟩
          refine ⟨rfl, _, rfl, iteNS rfl ?_⟩
          refine ⟨_, rfl, _, _, _, _, false, rfl, .ty _, (.base (.str v)), kit_ty (by decide +kernel), ?_⟩
          refine ⟨_, rfl, _, _, _, _, false, rfl, .ty _, (.base (.str v)), kit_ty (by decide +kernel), ?_⟩
          refine ⟨rfl, _, rfl, iteNS rfl ?_⟩
          refine ⟨_, rfl, _, _, _, _, true, rfl, .ty _, (.base (.str v)), kit_ty (by decide +kernel), ?_⟩
          refine ⟨_, rfl, _, _, _, _, true, rfl, .ty _, (.base (.str v)), kit_ty (by decide +kernel), ?_⟩
          refine ⟨rfl, _, rfl, ?_⟩
          rw [decide_eq_true rfl]
          refine iteT ⟨_, rfl, _, rfl, rfl, ?_⟩
          rw [decide_eq_true rfl]
          exact kk _ s0
        | byt v => cases hf
        | flt v => cases hf
        | ref v => cases hf
        | ty v => cases hf
      · rcases hab with ⟨h1, h2⟩ | ⟨h1, h2⟩
        · refine ⟨_, t, [.ty "list", .ty "tuple"], _, [.type "list", .type "tuple"], true, rfl, ht, .cons (.ty _) (.cons (.ty _) .nil), .base (.lst h2), kit2 (b := true) (c := false) (by decide +kernel) (by decide +kernel), ?_⟩
          refine ⟨_, rfl, iteT ?_⟩
          refine ⟨_, rfl, _, _, _, _, true, rfl, .ty _, .base (.lst h1), kit_ty (by decide +kernel), ?_⟩
          refine ⟨_, rfl, _, _, _, _, true, rfl, .ty _, .base (.lst h2), kit_ty (by decide +kernel), ?_⟩
          refine ⟨rfl, _, rfl, iteNS rfl ?_⟩
          refine ⟨_, rfl, _, _, _, _, false, rfl, .ty _, .base (.lst h1), kit_ty (by decide +kernel), ?_⟩
          refine ⟨_, rfl, _, _, _, _, false, rfl, .ty _, .base (.lst h2), kit_ty (by decide +kernel), ?_⟩
          refine ⟨rfl, _, rfl, iteNS rfl ?_⟩
          refine ⟨_, rfl, a1, xs, rfl, .inl (SqL.of h1), _, rfl, a2, ys, rfl, .inl (SqL.of h2), rfl, _, rfl, ?_⟩
          rw [hl, decide_eq_true rfl]
          refine iteT ?_
          refine ⟨_, rfl, _, rfl, a1, a2, xs, ys, rfl, .inl ⟨SqL.of h1, SqL.of h2, fun D nD => ?_⟩⟩
          refine lc_it (walk_zip (xs := xs) (ys := ys) (n := xs.length) (by rw [hl]; simp)) (fun i H' => Same (upd H t (.tup [.ty "list", .ty "tuple"])) H' ∧ H' D = some (.lst ((List.replicate i true).map V.bl)))
            ⟨same_upd nD, upd_same⟩ (fun i H' _ ⟨s1, _⟩ => ⟨SqL.of (s1 _ _ h1), SqL.of (s1 _ _ h2)⟩) ?_ ?_
          · rintro i x H' H2 hi1 ⟨s1, hD⟩ ⟨T2, x', y', rfl, hT, rfl, f1, f2⟩
            have s2 := same_upd (o := .tup [x', y']) hT
            refine ⟨T2, [x', y'], rfl, .inl (.inl upd_same), rfl, x', [y'], rfl, y', [], rfl, rfl, rfl, ?_⟩
            refine ⟨_, rfl, _, rfl, x', y', rfl, (hi i x' y' f1 f2).same (s1.trans s2), fun H3 s3 => ?_⟩
            refine ⟨_, s3 _ _ (s2 _ _ hD), ?_, ?_, ?_⟩
            · rw [List.length_map, List.length_replicate]; exact small1000 (by omega)
            · intro b o e
              rw [upd_ne (ne_of_none e nD)]
              exact s3 _ _ (s2 _ _ (s1 _ _ e))
            · rw [upd_same, List.replicate_succ', List.map_append]
              rfl
          · rintro H' ⟨s1, hD⟩
            refine ⟨D, List.replicate xs.length true, rfl, .inl (.inl hD), ?_⟩
            have e : (List.replicate xs.length true).all id = true := by simp
            rw [e]
            exact kk _ (s0.trans s1)
        · refine ⟨_, t, [.ty "list", .ty "tuple"], _, [.type "list", .type "tuple"], true, rfl, ht, .cons (.ty _) (.cons (.ty _) .nil), .base (.tup h2), kit2 (b := false) (c := true) (by decide +kernel) (by decide +kernel), ?_⟩
          refine ⟨_, rfl, iteT ?_⟩
          refine ⟨_, rfl, _, _, _, _, false, rfl, .ty _, .base (.tup h1), kit_ty (by decide +kernel), ?_⟩
          refine ⟨_, rfl, _, _, _, _, false, rfl, .ty _, .base (.tup h2), kit_ty (by decide +kernel), ?_⟩
          refine ⟨rfl, _, rfl, iteNS rfl ?_⟩
          refine ⟨_, rfl, _, _, _, _, true, rfl, .ty _, .base (.tup h1), kit_ty (by decide +kernel), ?_⟩
          refine ⟨_, rfl, _, _, _, _, true, rfl, .ty _, .base (.tup h2), kit_ty (by decide +kernel), ?_⟩
          refine ⟨rfl, _, rfl, iteNS rfl ?_⟩
          refine ⟨_, rfl, a1, xs, rfl, .inr (SqT.of h1), _, rfl, a2, ys, rfl, .inr (SqT.of h2), rfl, _, rfl, ?_⟩
          rw [hl, decide_eq_true rfl]
          refine iteT ?_
          refine ⟨_, rfl, _, rfl, a1, a2, xs, ys, rfl, .inr ⟨SqT.of h1, SqT.of h2, fun D nD => ?_⟩⟩
          refine lc_it (walk_zipTT (xs := xs) (ys := ys) (n := xs.length) (by rw [hl]; simp)) (fun i H' => Same (upd H t (.tup [.ty "list", .ty "tuple"])) H' ∧ H' D = some (.lst ((List.replicate i true).map V.bl)))
            ⟨same_upd nD, upd_same⟩ (fun i H' _ ⟨s1, _⟩ => ⟨SqT.of (s1 _ _ h1), SqT.of (s1 _ _ h2)⟩) ?_ ?_
          · rintro i x H' H2 hi1 ⟨s1, hD⟩ ⟨T2, x', y', rfl, hT, rfl, f1, f2⟩
            have s2 := same_upd (o := .tup [x', y']) hT
            refine ⟨T2, [x', y'], rfl, .inl (.inl upd_same), rfl, x', [y'], rfl, y', [], rfl, rfl, rfl, ?_⟩
            refine ⟨_, rfl, _, rfl, x', y', rfl, (hi i x' y' f1 f2).same (s1.trans s2), fun H3 s3 => ?_⟩
            refine ⟨_, s3 _ _ (s2 _ _ hD), ?_, ?_, ?_⟩
            · rw [List.length_map, List.length_replicate]; exact small1000 (by omega)
            · intro b o e
              rw [upd_ne (ne_of_none e nD)]
              exact s3 _ _ (s2 _ _ (s1 _ _ e))
            · rw [upd_same, List.replicate_succ', List.map_append]
              rfl
          · rintro H' ⟨s1, hD⟩
            refine ⟨D, List.replicate xs.length true, rfl, .inl (.inl hD), ?_⟩
            have e : (List.replicate xs.length true).all id = true := by simp
            rw [e]
            exact kk _ (s0.trans s1)
end
end K

namespace K
open PySem PySem.Spec PyProof.Rows L2
open Sw (T3 Dist at? relax roundOf rounds)
abbrev sCheck : Stmt := top 7
section
variable {P : Program} {w : World} {K : PySem.W.Frag} {mg : Str → Option Value} {base : Heap}
theorem scCheck : FnScope ["many", "house"] ["many", "house"] (defScope sCheck) := ⟨rfl, rfl, rfl, by decide +kernel, rfl, by decide +kernel, by decide +kernel⟩
theorem ok_check {f : Addr} {fd : FuncData} {k : Nat} (F : Fun K "check_house" "check_house" sCheck f fd) : FnOk P w K mg base CX0 (k + 1) f fd ["many", "house"] spCheck := by
  refine F.ok scCheck (fun vs H Q E h => ?_) (fun cdv A outer s H vs Q E hr h => ?_)
  · obtain ⟨n, g, rfl, _⟩ := h
    rfl
  · obtain ⟨n, g, rfl, hg, q⟩ := h
    refine ⟨_, pss_one (ps_if (PW.pt (pw_or (pt_cmpR op_lt (pv 1) pe_int (nomark _)) (pw_or1 (pt_cmpR op_ge (pv 1) (pv 0) (nomark _))))) (pss_one ps_never) pss_nil), ?_⟩
    refine ⟨_, rfl, _, _, rfl, rfl, _, rfl, ?_⟩
    rw [decide_eq_false (show ¬ ((g : Int) < 0) by omega)]
    refine iteF ?_
    refine ⟨_, rfl, _, rfl, _, _, rfl, rfl, _, rfl, ?_⟩
    rw [decide_eq_false (show ¬ ((n : Int) ≤ (g : Int)) by omega)]
    exact iteF q
end
end K

namespace K
open PySem PySem.Spec PyProof.Rows L2
open Sw (T3 Dist at? relax roundOf rounds)
abbrev sCheap : Stmt := top 9
abbrev sFar : Stmt := top 10
section
variable {P : Program} {w : World} {K : PySem.W.Frag} {mg : Str → Option Value} {base : Heap}
theorem scCheap : FnScope ["prices", "house", "near", "price", "total"] ["prices", "house", "near", "price"] (defScope sCheap) := ⟨rfl, rfl, rfl, by decide +kernel, rfl, by decide +kernel, by decide +kernel⟩
theorem ok_cheap {f : Addr} {fd : FuncData} {k : Nat} (F : Fun K "cheapen" "cheapen" sCheap f fd) : FnOk P w K mg base CX0 (k + 1) f fd ["prices", "house", "near", "price"] spCheap := by
  refine F.ok scCheap (fun vs H Q E h => ?_) (fun cdv A outer s H vs Q E hr h => ?_)
  · obtain ⟨p, d, a, b, c, rfl, _⟩ := h
    rfl
  · obtain ⟨p, d, a, b, c, rfl, hp, ha, hb, kk⟩ := h
    refine ⟨_, pss_cons (ps_if (pt_cmpR op_isN (pe_ix ix_list (pv 0) (pv 2) (fun _ _ => rfl)) pe_non (nomark _)) (pss_one ps_retN) pss_nil)
      (pss_cons (ps_set (i := 4) scCheap.nd rfl (.inl rfl) (pe_op op_add (pe_ix ix_list (pv 0) (pv 2) (fun _ _ => rfl)) (pv 3)))
      (pss_one (ps_if (PW.pt (pw_or (pt_cmpR op_isN (pe_ix ix_list (pv 0) (pv 1) (fun _ _ => rfl)) pe_non (nomark _)) (pw_or1 (pt_cmpR op_lt (pv 4) (pe_ix ix_list (pv 0) (pv 1) (fun _ _ => rfl)) (nomark _)))))
        (pss_one (ps_asg (pv 4) (pg_sub (pv 0) (pv 1) set_list))) pss_nil))), ?_⟩
    have hA := atI_nat (at_of ha)
    have hB := atI_nat (at_of hb)
    refine ⟨_, rfl, _, rfl, p, _, _, _, rfl, rfl, SqL.of hp, hB, rfl, _, rfl, ?_⟩
    cases eb : at? d b with
    | none =>
      refine iteT ?_
      refine kk H ?_ (But.refl p H)
      unfold relax
      simp only [eb]
      exact hp
    | some y =>
      refine iteF ?_
      rw [eb] at hB
      refine ⟨_, rfl, _, rfl, p, _, _, _, rfl, rfl, SqL.of hp, hB, _, rfl, _, _, rfl, rfl, ?_⟩
      refine ⟨_, rfl, _, rfl, p, _, _, _, rfl, rfl, SqL.of hp, hA, rfl, _, rfl, ?_⟩
      have put : ∀ z : Nat, (z : Int) = (y : Int) + (c : Int) → upd H p (.lst ((d.map ov).set a (.int ((y : Int) + (c : Int))))) p = some (.lst ((d.set a (some z)).map ov)) := fun z hz => by
        rw [upd_same, ← set_ov, ← hz]
        rfl
      cases ea : at? d a with
      | none =>
        refine iteT ?_
        refine ⟨_, rfl, _, rfl, _, rfl, p, _, _, a, rfl, rfl, hp, ?_, ?_⟩
        · rw [List.length_map]; exact ixN_nat ha
        · refine kk _ ?_ But.put
          unfold relax
          simp only [eb, ea]
          exact put (y + c) (by omega)
      | some x =>
        refine iteF ?_
        rw [ea] at hA
        refine ⟨_, rfl, _, rfl, _, rfl, p, _, _, _, rfl, rfl, SqL.of hp, hA, _, _, rfl, rfl, _, rfl, ?_⟩
        refine ite2 (fun l => ?_) (fun l => ?_)
        · have l := of_decide_eq_true l
          refine ⟨_, rfl, _, rfl, _, rfl, p, _, _, a, rfl, rfl, hp, ?_, ?_⟩
          · rw [List.length_map]; exact ixN_nat ha
          · refine kk _ ?_ But.put
            unfold relax
            simp only [eb, ea]
            rw [if_pos (by omega)]
            exact put (y + c) (by omega)
        · have l : ¬ ((y : Int) + (c : Int) < (x : Int)) := fun q => l (decide_eq_true q)
          refine kk H ?_ (But.refl p H)
          unfold relax
          simp only [eb, ea]
          rw [if_neg (by omega)]
          exact hp
theorem scFar : FnScope ["many", "ties", "goal", "prices", "turn", "one", "other", "price"] ["many", "ties", "goal"] (defScope sFar) := ⟨rfl, rfl, rfl, by decide +kernel, rfl, by decide +kernel, by decide +kernel⟩
theorem ok_far {f fC fH : Addr} {fd fdC fdH : FuncData} {k : Nat} (F : Fun K "far" "far" sFar f fd) (FC : Fun K "check_house" "check_house" sCheck fC fdC) (FH : Fun K "cheapen" "cheapen" sCheap fH fdH)
    (gC : mg "check_house" = some (.ref fC)) (gH : mg "cheapen" = some (.ref fH)) (mr : mg "range" = none) (bC : Binds K fdC ["many", "house"] []) (bH : Binds K fdH ["prices", "house", "near", "price"] []) : FnOk P w K mg base CX0 (k + 2) f fd ["many", "ties", "goal"] spFar := by
  have GC : FnOk P w K mg base CX0 (k + 1) fC fdC ["many", "house"] spCheck := ok_check FC
  have GH : FnOk P w K mg base CX0 (k + 1) fH fdH ["prices", "house", "near", "price"] spCheap := ok_cheap FH
  refine F.ok scFar (fun vs H Q E h => ?_) (fun cdv A outer s H vs Q E hr h => ?_)
  · obtain ⟨n, g, t, ts, rfl, _⟩ := h
    rfl
  · obtain ⟨n, g, t, ts, rfl, hg, hn, hT, hF, kk⟩ := h
    refine ⟨_, pss_cons (ps_expr (pe_call GC hr (by rfl) gC FC.kp bC .nil pass0 (pa_cons (pv 0) (pa_cons (pv 2) pa_nil))))
      (pss_cons (ps_set (i := 3) scFar.nd rfl (.inl rfl) (pe_op op_rep (pe_lst (pa_cons pe_non pa_nil)) (pv 0)))
      (pss_cons (ps_asg pe_int (pg_sub (pv 3) (pv 2) set_list))
      (pss_cons (ps_for PassesOwn.never rfl (pi_range1 rfl mr (pa_cons (pv 0) pa_nil)) (pg_name (i := 4) scFar.nd rfl (Or.inl rfl))
        (pss_one (ps_for PassesOwn.never rfl (pi_list (pv 1)) (pg_tup rfl (pgs_cons (pg_name (i := 5) scFar.nd rfl (Or.inl rfl)) (pgs_cons (pg_name (i := 6) scFar.nd rfl (Or.inl rfl)) (pgs_cons (pg_name (i := 7) scFar.nd rfl (Or.inl rfl)) pgs_nil))))
          (pss_cons (ps_expr (pe_call GH hr (by rfl) gH FH.kp bH .nil pass0 (pa_cons (pv 3) (pa_cons (pv 5) (pa_cons (pv 6) (pa_cons (pv 7) pa_nil))))))
          (pss_one (ps_expr (pe_call GH hr (by rfl) gH FH.kp bH .nil pass0 (pa_cons (pv 3) (pa_cons (pv 6) (pa_cons (pv 5) (pa_cons (pv 7) pa_nil))))))))))) 
      (pss_one (ps_ret (pv 3)))))), ?_⟩
    refine ⟨_, rfl, _, rfl, n, g, rfl, hg, ?_⟩
    -- [None] * many
    refine ⟨(by show 1 ≤ sizeLine; decide), fun l nl => ?_⟩
    have s1 : Same H (upd H l (.lst [.non])) := same_upd nl
    refine ⟨_, rfl, l, n, _, rfl, rfl, upd_same, by omega, by omega, ?_, fun p np => ?_⟩
    · rw [Int.toNat_natCast]
      exact Nat.le_of_lt (small1000 (by show 1 * n ≤ 1000; omega))
    rw [Int.toNat_natCast, rep_non]
    have np0 : H p = none := s1.free np
    -- prices[goal] = 0
    refine ⟨_, rfl, _, rfl, p, _, _, g, rfl, rfl, upd_same, ?_, ?_⟩
    · rw [List.length_map, List.length_replicate]; exact ixN_nat hg
    have e0 : ((List.replicate n (none : Option Nat)).map ov).set g (.int 0) = (Sw.start n g).map ov := by
      unfold Sw.start
      rw [← set_ov]
      rfl
    rw [e0]
    -- the rounds
    refine ⟨_, rfl, n, rfl, by omega, by omega, for_range (n := n) (fun i σ H' => ∃ y4 y5 y6 y7, σ = [some (.int (n : Nat)), some (.ref t), some (.int (g : Nat)), some (.ref p), y4, y5, y6, y7] ∧ Same H H' ∧ DistAt H' p (rounds (both ts) i (Sw.start n g)))
      ⟨none, none, none, none, rfl, fun b o e => ?_, upd_same⟩ ?_ ?_⟩
    · rw [upd_ne (ne_of_none e np0), upd_ne (ne_of_none e np0)]
      exact s1 _ _ e
    · rintro i σ H' hi ⟨y4, y5, y6, y7, rfl, sm, hd⟩
      obtain ⟨as, ht, hp⟩ := hT
      have hlen := paired_len hp
      refine ⟨_, rfl, t, rfl, ⟨_, SqL.of (sm _ _ ht)⟩, for_list (K := K) (a := t) (xs := as.map V.ref) (fun j σ H2 => ∃ z5 z6 z7, σ = [some (.int (n : Nat)), some (.ref t), some (.int (g : Nat)), some (.ref p), some (.int (0 + (i : Int))), z5, z6, z7] ∧ Same H H2 ∧ DistAt H2 p (roundOf (both (ts.take j)) (rounds (both ts) i (Sw.start n g))))
        ⟨y5, y6, y7, rfl, sm, hd⟩ (fun j σ H2 _ ⟨_, _, _, _, s2, _⟩ => SqL.of (s2 _ _ ht)) ?_ ?_⟩
      · rintro j y σ H2 hj ⟨z5, z6, z7, rfl, s2, h2⟩
        obtain ⟨a, ea, rfl⟩ := map_ref_at hj
        obtain ⟨e, ee, he⟩ := paired_at hp j a ea
        obtain ⟨e1, e2, e3⟩ := e
        have hb := hF _ (List.mem_of_getElem? ee)
        have hdl : ∀ L, (roundOf L (rounds (both ts) i (Sw.start n g))).length = n := fun L => by rw [Sw.round_len, Sw.rounds_len]; simp [Sw.start]
        refine ⟨a, tv (e1, e2, e3), rfl, SqT.of (s2 _ _ he), rfl, _, _, rfl, _, _, rfl, _, _, rfl, rfl, ?_⟩
        refine ⟨_, rfl, _, rfl, _, rfl, _, rfl, p, _, e1, e2, e3, rfl, h2, by rw [hdl]; exact hb.1, by rw [hdl]; exact hb.2, fun H3 h3 b3 => ?_⟩
        refine ⟨_, rfl, _, rfl, _, rfl, _, rfl, p, _, e2, e1, e3, rfl, h3, by rw [Sw.relax_len, hdl]; exact hb.2, by rw [Sw.relax_len, hdl]; exact hb.1, fun H4 h4 b4 => ?_⟩
        refine ⟨_, _, _, rfl, fun b o q => b4 _ _ (b3 _ _ (s2 _ _ q) (ne_of_none q np0)) (ne_of_none q np0), ?_⟩
        rw [take_succ_of ee, both_snoc, roundOf_append]
        exact h4
      · rintro σ H2 ⟨z5, z6, z7, rfl, s2, h2⟩
        refine ⟨_, _, _, _, rfl, s2, ?_⟩
        rw [Sw.rounds_succ]
        rw [List.length_map, hlen, List.take_length] at h2
        exact h2
    · rintro σ H' ⟨y4, y5, y6, y7, rfl, sm, hd⟩
      exact ⟨_, rfl, kk p H' np0 sm hd⟩
end
end K

namespace K
open PySem PySem.Spec PyProof.Rows L2
open Sw (T3 Dist at? relax roundOf rounds)
abbrev sPairs : Stmt := top 21
section
variable {P : Program} {w : World} {K : PySem.W.Frag} {mg : Str → Option Value} {base : Heap}
theorem scPairs : FnScope ["_law_many", "_law_one", "_law_other"] ["_law_many"] (defScope sPairs) := ⟨rfl, rfl, rfl, by decide +kernel, rfl, by decide +kernel, by decide +kernel⟩
def scIn : Scope := { kind := .function, names := [(".0", .local), ("_law_one", .cell), ("range", .globalImplicit), ("_law_many", .cell)], isGenerator := false, isCoroutine := false }
theorem ok_pairs {f : Addr} {fd : FuncData} {k : Nat} (F : Fun K "_law_pairs" "_law_pairs" sPairs f fd) (msum : mg "sum" = none) (mr : mg "range" = none) : FnOk P w K mg base CX0 (k + 1) f fd ["_law_many"] spPairs := by
  refine F.ok scPairs (fun vs H Q E h => ?_) (fun cdv A outer s H vs Q E hr h => ?_)
  · obtain ⟨n, rfl, _⟩ := h
    rfl
  · obtain ⟨n, rfl, h0, h8, kk⟩ := h
    refine ⟨_, pss_one (ps_ret (pe_callB (cr_sumL rfl) (by rfl) msum (by decide +kernel) (pa_cons
      (pe_lc (own := [("_law_one", 1)]) (g := gName 1) (tt := tYes) rfl scPairs.nd (pi_range1 rfl mr (pa_cons (pv 0) pa_nil)) (blkOk_by (own := [("_law_one", 1)]) (N := ["_law_many", "_law_one", "_law_other"]) (sc := defScope sPairs) (by decide +kernel))
        (fun _ _ _ _ _ => by exact (pg_name (i := 1) scPairs.nd rfl (Or.inr rfl))) (fun _ _ _ _ _ => pts_nil)
        (fun _ _ _ _ _ => pe_lc (own := [("_law_other", 2)]) (g := gName 2) (tt := tYes) rfl scPairs.nd (by exact (pi_range2 (by rfl) mr (pa_cons (pe_op op_add (pv 1) pe_int) (pa_cons (pv 0) pa_nil)))) (blkOk_by (own := [("_law_other", 2)]) (N := ["_law_many", "_law_one", "_law_other"]) (sc := scIn) (by decide +kernel))
          (fun _ _ _ _ _ => by exact (pg_name (i := 2) scPairs.nd rfl (Or.inl rfl))) (fun _ _ _ _ _ => pts_nil)
          (fun _ _ _ _ _ => by exact (pe_tup (pa_cons (pv 1) (pa_cons (pv 2) pa_nil)))))) (pa_cons (pe_lst pa_nil) pa_nil)))), ?_⟩
    refine ⟨_, rfl, n, rfl, by omega, by omega, fun D nD => ?_⟩
    refine lc_range (lo := 0) (n := n) (fun i H' => Same H H' ∧ ∃ (ls : List Addr) (xss : List (List V)), H' D = some (.lst (ls.map V.ref)) ∧ ls.length = i ∧ Paired (fun l xs => l ≠ D ∧ H' l = some (.lst xs)) ls xss ∧ ∀ xs ∈ xss, PairsV H' n xs ∧ xs.length ≤ n)
      ⟨same_upd nD, [], [], upd_same, rfl, .nil, fun xs m => by cases m⟩ ?_ ?_
    · rintro i H1 hi ⟨s1, ls, xss, hD, hl, hp, hx⟩
      refine ⟨rfl, ?_⟩
      refine ⟨_, rfl, _, _, rfl, rfl, _, rfl, _, _, rfl, ⟨by omega, by omega, by omega, by omega⟩, fun D2 nD2 => ?_⟩
      have nDD : D ≠ D2 := ne_of_none hD nD2
      refine lc_range (fun j H2 => Same H1 H2 ∧ ∃ xs, H2 D2 = some (.lst xs) ∧ xs.length = j ∧ PairsV H2 n xs) ⟨same_upd nD2, [], upd_same, rfl, PairsV.nil⟩ ?_ ?_
      · rintro j H2 hj ⟨s2, xs, hD2, hxl, hxs⟩
        refine ⟨rfl, ?_⟩
        refine ⟨_, rfl, _, rfl, (by show 2 ≤ sizeLine; decide), fun t nt => ?_⟩
        have s3 := same_upd (o := .tup [.int (0 + (i : Int)), .int (0 + (i : Int) + 1 + (j : Int))]) nt
        have ntD : t ≠ D2 := Ne.symm (ne_of_none hD2 nt)
        refine ⟨xs, s3 _ _ hD2, by rw [hxl]; exact small1000 (by omega), fun b o e => ?_, xs ++ [.ref t], upd_same, by rw [List.length_append, hxl]; rfl, ?_⟩
        · rw [upd_ne (ne_of_none e nD2)]
          exact s3 _ _ (s2 _ _ e)
        · have keep : ∀ a ys, H2 a = some (.tup ys) → (upd (upd H2 t (.tup [.int (0 + (i : Int)), .int (0 + (i : Int) + 1 + (j : Int))])) D2 (.lst (xs ++ [.ref t]))) a = some (.tup ys) := fun a ys e => by
            rw [upd_ne (ne_of e hD2 (fun z => by cases z))]
            exact s3 _ _ e
          refine (hxs.at keep).append (PairsV.one (i := i) (j := i + 1 + j) ?_ (by omega) (by omega))
          rw [upd_ne ntD, upd_same]
          have e1 : (0 + (i : Int)) = ((i : Nat) : Int) := by omega
          have e2 : (0 + (i : Int) + 1 + (j : Int)) = ((i + 1 + j : Nat) : Int) := by omega
          rw [e2, e1]
      · rintro H2 ⟨s2, xs, hD2, hxl, hxs⟩
        refine ⟨_, s2 _ _ hD, by rw [List.length_map, hl]; exact small1000 (by omega), fun b o e => ?_, ls ++ [D2], xss ++ [xs], ?_, by rw [List.length_append, hl]; rfl, ?_, fun ys m => ?_⟩
        · rw [upd_ne (ne_of_none e nD)]
          exact s2 _ _ (s1 _ _ e)
        · rw [upd_same, List.map_append] <;> rfl
        · refine paired_append (paired_mono (fun l zs q => ⟨q.1, by rw [upd_ne q.1]; exact s2 _ _ q.2⟩) hp) (.cons ⟨Ne.symm nDD, ?_⟩ .nil)
          rw [upd_ne (Ne.symm nDD)]
          exact hD2
        · have keep : ∀ a ys, H2 a = some (.tup ys) → (upd H2 D (.lst (ls.map V.ref ++ [.ref D2]))) a = some (.tup ys) := fun a ys e => by
            rw [upd_ne (ne_of e (s2 _ _ hD) (fun z => by cases z))]
            exact e
          rcases List.mem_append.mp m with q | q
          · exact ⟨((hx ys q).1.at fun a zs e => s2 _ _ e).at keep, (hx ys q).2⟩
          · simp at q
            subst q
            exact ⟨hxs.at keep, by rw [hxl]; omega⟩
    · rintro H1 ⟨s1, ls, xss, hD, hl, hp, hx⟩
      refine ⟨Nat.zero_le _, fun z nz => ?_⟩
      have s2 := same_upd (o := .lst []) nz
      have hxl : xss.length = n := by rw [← hl]; exact (paired_len hp).symm
      have hfl := flat_len (n := n) fun xs m => (hx xs m).2
      have hb : xss.length * n ≤ 8 * 8 := by rw [hxl]; exact Nat.mul_le_mul h8 h8
      refine ⟨D, z, ls, xss, [], rfl, s2 _ _ hD, upd_same, paired_mono (fun l xs q => s2 _ _ q.2) hp, fun e => by rw [e] at hl; simp at hl; omega, ?_, fun p np => ?_⟩
      · exact Nat.le_of_lt (small1000 (by show 0 + xss.flatten.length ≤ 1000; omega))
      · have s3 := same_upd (o := .lst ([] ++ xss.flatten)) np
        refine kk p _ xss.flatten (s1.free (s2.free np)) (s1.trans (s2.trans s3)) upd_same (PairsV.flat fun xs m => ((hx xs m).1.at fun a ys e => s2 _ _ e).at fun a ys e => s3 _ _ e) (by omega)
end
end K

namespace K
open PySem PySem.Spec PyProof.Rows L2
open Sw (T3 Dist at? relax roundOf rounds)
abbrev sShuf : Stmt := top 22
section
variable {P : Program} {w : World} {K : PySem.W.Frag} {mg : Str → Option Value} {base : Heap}
theorem scShuf : FnScope ["_law_box_here", "_law_some", "_law_found", "_law_one"] ["_law_box_here", "_law_some"] (defScope sShuf) := ⟨rfl, rfl, rfl, by decide +kernel, rfl, by decide +kernel, by decide +kernel⟩
theorem perm_put {α : Type} (ys : List α) (k : Nat) (y : α) : (ys.take k ++ [y] ++ ys.drop k).Perm (ys ++ [y]) := by
  have h1 : (ys.take k ++ [y] ++ ys.drop k).Perm (ys.take k ++ (ys.drop k ++ [y])) := by
    rw [List.append_assoc]
    exact List.Perm.append_left _ List.perm_append_comm
  rw [← List.append_assoc, List.take_append_drop] at h1
  exact h1
theorem ok_shuf {f fT : Addr} {fd fdT : FuncData} {k : Nat} (F : Fun K "_law_shuffled" "_law_shuffled" sShuf f fd) (FT : Fun K "_law_take" "_law_take" sTake fT fdT) (gT : mg "_law_take" = some (.ref fT)) (bT : Binds K fdT ["_law_box_here", "_law_sides"] []) (mlen : mg "len" = none) :
    FnOk P w K mg base CX0 (k + 2) f fd ["_law_box_here", "_law_some"] spShuf := by
  have GT : FnOk P w K mg base CX0 (k + 1) fT fdT ["_law_box_here", "_law_sides"] spTake := ok_take FT mlen
  refine F.ok scShuf (fun vs H Q E h => ?_) (fun cdv A outer s H vs Q E hr h => ?_)
  · obtain ⟨p, q, t, xs, rfl, _⟩ := h
    rfl
  · obtain ⟨p, q, t, xs, rfl, hB, htp, ht, hlen, kk⟩ := h
    refine ⟨_, pss_cons (ps_set (i := 2) scShuf.nd rfl (.inl rfl) (pe_lst pa_nil))
      (pss_cons (ps_for PassesOwn.never rfl (pi_list (pv 1)) (pg_name (i := 3) scShuf.nd rfl (Or.inl rfl))
        (pss_one (ps_expr (pe_bm PySem.F.plainAttrs_list PySem.F.slot_list_insert PySem.F.type_list_insert mt_insert (pv 2)
          (pa_cons (pe_call GT hr (by rfl) gT FT.kp bT .nil pass0 (pa_cons (pv 0) (pa_cons (pe_op op_add (pe_callB call_len_seq (by rfl) mlen PySem.boot_len (pa_cons (pv 2) pa_nil)) pe_int) pa_nil))) (pa_cons (pv 3) pa_nil))))))
      (pss_one (ps_ret (pv 2)))), ?_⟩
    refine ⟨Nat.zero_le _, fun r nr => ?_⟩
    obtain ⟨op, ep⟩ := hB.p_some
    obtain ⟨oq, eq⟩ := hB.q_some
    have nrp : r ≠ p := Ne.symm (ne_of_none ep nr)
    have nrq : r ≠ q := Ne.symm (ne_of_none eq nr)
    have nrt : r ≠ t := Ne.symm (ne_of_none ht nr)
    have s1 := same_upd (o := .lst []) nr
    refine ⟨_, rfl, t, rfl, ⟨_, SqL.of (s1 _ _ ht)⟩, for_list (K := K) (a := t) (xs := xs) (fun i σ H' => ∃ y3 ys, σ = [some (.ref p), some (.ref t), some (.ref r), y3] ∧ BoxAt H' p q ∧ But p H H' ∧ H' r = some (.lst ys) ∧ ys.Perm (xs.take i))
      ⟨none, [], rfl, hB.same s1, But.of_same s1, upd_same, List.Perm.refl _⟩ (fun i σ H' _ ⟨_, _, _, _, b, _⟩ => SqL.of (b _ _ ht htp)) ?_ ?_⟩
    · rintro i y σ H' hi ⟨y3, ys, rfl, B1, b1, hr1, hperm⟩
      have hyl : ys.length ≤ 1000 := by rw [hperm.length_eq, List.length_take]; omega
      refine ⟨_, rfl, .inl ⟨rfl, _, SqL.of hr1⟩, _, rfl, _, rfl, r, _, rfl, .inl (SqL.of hr1), _, _, rfl, rfl, p, q, _, rfl, B1, by omega, by omega, fun z H2 hz0 hz1 B2 b2 => ?_⟩
      have hr2 := b2 _ _ hr1 nrp
      refine ⟨_, rfl, r, ys, z, y, rfl, rfl, hr2, small1000 hyl, hz0, by omega, ?_⟩
      refine ⟨_, _, rfl, B2.put nrp nrq, fun b o e hb => ?_, upd_same, ?_⟩
      · rw [upd_ne (ne_of_none e nr)]
        exact b2 _ _ (b1 _ _ e hb) hb
      · rw [take_succ_of hi]
        exact (perm_put ys z.toNat y).trans (hperm.append_right [y])
    · rintro σ H' ⟨y3, ys, rfl, B1, b1, hr1, hperm⟩
      rw [List.take_length] at hperm
      exact ⟨_, rfl, kk r H' ys nr B1 b1 hr1 hperm⟩
end
end K

namespace K
open PySem PySem.Spec PyProof.Rows L2
open Sw (T3 Dist at? relax roundOf rounds)
abbrev sSome : Stmt := top 23
section
variable {P : Program} {w : World} {K : PySem.W.Frag} {mg : Str → Option Value} {base : Heap}
theorem scSome : FnScope ["_law_box_here", "_law_many", "_law_odds", "_law_found", "_law_one", "_law_other"] ["_law_box_here", "_law_many", "_law_odds"] (defScope sSome) := ⟨rfl, rfl, rfl, by decide +kernel, rfl, by decide +kernel, by decide +kernel⟩
theorem ok_some {f fT fP : Addr} {fd fdT fdP : FuncData} {k : Nat} (F : Fun K "_law_some_ties" "_law_some_ties" sSome f fd) (FT : Fun K "_law_take" "_law_take" sTake fT fdT) (gT : mg "_law_take" = some (.ref fT)) (bT : Binds K fdT ["_law_box_here", "_law_sides"] [])
    (FP : Fun K "_law_pairs" "_law_pairs" sPairs fP fdP) (gP : mg "_law_pairs" = some (.ref fP)) (bP : Binds K fdP ["_law_many"] []) (mlen : mg "len" = none) (msum : mg "sum" = none) (mr : mg "range" = none) :
    FnOk P w K mg base CX0 (k + 2) f fd ["_law_box_here", "_law_many", "_law_odds"] spSome := by
  have GT : FnOk P w K mg base CX0 (k + 1) fT fdT ["_law_box_here", "_law_sides"] spTake := ok_take FT mlen
  have GP : FnOk P w K mg base CX0 (k + 1) fP fdP ["_law_many"] spPairs := ok_pairs FP msum mr
  refine F.ok scSome (fun vs H Q E h => ?_) (fun cdv A outer s H vs Q E hr h => ?_)
  · obtain ⟨p, q, n, o, rfl, _⟩ := h
    rfl
  · obtain ⟨p, q, n, o, rfl, hB, h0, h8, kk⟩ := h
    refine ⟨_, pss_cons (ps_set (i := 3) scSome.nd rfl (.inl rfl) (pe_lst pa_nil))
      (pss_cons (ps_for PassesOwn.never rfl (pi_list (pe_call GP hr (by rfl) gP FP.kp bP .nil pass0 (pa_cons (pv 1) pa_nil))) (pg_tup rfl (pgs_cons (pg_name (i := 4) scSome.nd rfl (Or.inl rfl)) (pgs_cons (pg_name (i := 5) scSome.nd rfl (Or.inl rfl)) pgs_nil)))
        (pss_one (ps_if (PW.pt (pw_and (pt_cmpR op_lt (pe_callB call_len_seq (by rfl) mlen PySem.boot_len (pa_cons (pv 3) pa_nil)) pe_int (nomark _))
            (pw_and1 (pt_cmpR op_lt (pe_call GT hr (by rfl) gT FT.kp bT .nil pass0 (pa_cons (pv 0) (pa_cons pe_int pa_nil))) (pv 2) (nomark _)))))
          (pss_one (ps_expr (pe_bm PySem.F.plainAttrs_list PySem.F.slot_list_append PySem.F.type_list_append mt_append (pv 3)
            (pa_cons (pe_tup (pa_cons (pv 4) (pa_cons (pv 5) (pa_cons (pe_op op_add pe_int (pe_call GT hr (by rfl) gT FT.kp bT .nil pass0 (pa_cons (pv 0)
              (pa_cons (pe_ix ix_list (pe_lst (pa_cons pe_int (pa_cons pe_int pa_nil))) (pe_call GT hr (by rfl) gT FT.kp bT .nil pass0 (pa_cons (pv 0) (pa_cons pe_int pa_nil))) (fun _ _ => rfl)) pa_nil)))) pa_nil)))) pa_nil)))) pss_nil)))
      (pss_one (ps_ret (pv 3)))), ?_⟩
    refine ⟨Nat.zero_le _, fun r nr => ?_⟩
    obtain ⟨op, ep⟩ := hB.p_some
    obtain ⟨oq, eq⟩ := hB.q_some
    have nrp : r ≠ p := Ne.symm (ne_of_none ep nr)
    have nrq : r ≠ q := Ne.symm (ne_of_none eq nr)
    have s1 := same_upd (o := .lst []) nr
    refine ⟨_, rfl, n, rfl, h0, h8, fun a H1 xs na s2 ha hx hxl => ?_⟩
    obtain ⟨as, ps, rfl, hp, hps⟩ := hx
    have nap : a ≠ p := Ne.symm (ne_of_none (s1 _ _ ep) na)
    have nar : a ≠ r := Ne.symm (ne_of_none upd_same na)
    -- tuples stand apart from the box and from the list that grows
    refine ⟨a, rfl, ⟨_, SqL.of ha⟩, for_list (K := K) (a := a) (xs := as.map V.ref) (fun i σ H' => ∃ y4 y5 ts, σ = [some (.ref p), some (.int (n : Nat)), some (.int o), some (.ref r), y4, y5] ∧ BoxAt H' p q ∧ But p H H' ∧
        (∀ b u, H1 b = some u → b ≠ p → b ≠ r → H' b = some u) ∧ TiesAt H' r ts ∧ Good n ts ∧ ts.length ≤ 14)
      ⟨none, none, [], rfl, (hB.same s1).same s2, (But.of_same s1).trans (But.of_same s2), fun b u e _ _ => e, ⟨[], s2 _ _ upd_same, .nil⟩, fun e m => (by cases m), Nat.zero_le _⟩
      (fun i σ H' _ ⟨_, _, _, _, _, _, b, _⟩ => SqL.of (b _ _ ha nap nar)) ?_ ?_⟩
    · rintro i y σ H' hi ⟨y4, y5, ts, rfl, B1, b1, c1, hT, hG, hL⟩
      obtain ⟨x, ex, rfl⟩ := map_ref_at hi
      obtain ⟨e, ee, he⟩ := paired_at hp i x ex
      obtain ⟨e1, e2⟩ := e
      have hb := hps _ (List.mem_of_getElem? ee)
      have nxp : x ≠ p := ne_of he (s2 _ _ (s1 _ _ ep)) (fun z => by obtain ⟨_, _, _, _, z1, _⟩ := hB; rw [ep] at z1; cases z1; cases z)
      have nxr : x ≠ r := ne_of he (s2 _ _ upd_same) (fun z => by cases z)
      refine ⟨x, _, rfl, SqT.of (c1 _ _ he nxp nxr), rfl, _, _, rfl, _, _, rfl, rfl, ?_⟩
      obtain ⟨bs, h1, h2⟩ := id hT
      have hbl : bs.length = ts.length := paired_len h2
      refine ⟨_, rfl, r, _, rfl, .inl (SqL.of h1), _, _, rfl, rfl, _, rfl, ?_⟩
      rw [List.length_map]
      refine ite2 (fun c => ?_) (fun c => ?_)
      · have c := of_decide_eq_true c
        refine ⟨_, rfl, p, q, 8, rfl, B1, by omega, by omega, fun z H2 hz0 hz1 B2 b2 => ?_⟩
        refine ⟨_, rfl, _, _, rfl, rfl, _, rfl, ?_⟩
        have T2 : ∀ {Ha Hb : Hp}, But p Ha Hb → BoxAt Ha p q → TiesAt Ha r ts → TiesAt Hb r ts := fun {Ha Hb} bb BB TT => by
          obtain ⟨bs, h1, h2⟩ := TT
          obtain ⟨_, _, _, _, z1, _⟩ := BB
          exact ⟨bs, bb _ _ h1 nrp, paired_mono (fun a e q => bb _ _ q (ne_of q z1 (fun z => by cases z))) h2⟩
        have hT2 := T2 b2 B1 hT
        refine ite2 (fun c2 => ?_) (fun c2 => ?_)
        · obtain ⟨bs2, h12, h22⟩ := id hT2
          refine ⟨_, rfl, .inl ⟨rfl, _, SqL.of h12⟩, _, rfl, _, rfl, _, rfl, (by show 2 ≤ sizeLine; decide), fun l nl => ?_⟩
          have s3 := same_upd (o := .lst [.int 2, .int 9]) nl
          refine ⟨_, rfl, p, q, 2, rfl, B2.same s3, by omega, by omega, fun z3 H3 hz30 hz31 B3 b3 => ?_⟩
          obtain ⟨op2, ep2⟩ := B2.p_some
          have nlp : l ≠ p := Ne.symm (ne_of_none ep2 nl)
          have hl3 : H3 l = some (.lst [.int 2, .int 9]) := b3 _ _ upd_same nlp
          have hT3 := T2 b3 (B2.same s3) (hT2.same s3)
          have hv : ∃ v : Int, (v = 2 ∨ v = 9) ∧ atI [V.int 2, V.int 9] z3 = some (.int v) := by
            have : z3 = 0 ∨ z3 = 1 := by omega
            rcases this with q | q
            · subst q; exact ⟨2, .inl rfl, rfl⟩
            · subst q; exact ⟨9, .inr rfl, rfl⟩
          obtain ⟨v, hv1, hv2⟩ := hv
          refine ⟨l, _, z3, _, rfl, rfl, SqL.of hl3, hv2, p, q, v, rfl, B3, by omega, by omega, fun z4 H4 hz40 hz41 B4 b4 => ?_⟩
          have hT4 := T2 b4 B3 hT3
          refine ⟨_, _, rfl, rfl, (by show 3 ≤ sizeLine; decide), fun t nt => ?_⟩
          have s5 := same_upd (o := .tup [.int (e1 : Nat), .int (e2 : Nat), .int (1 + z4)]) nt
          obtain ⟨bs4, h14, h24⟩ := id (hT4.same s5)
          have ntr : t ≠ r := by obtain ⟨_, z, _⟩ := hT4; exact Ne.symm (ne_of_none z nt)
          have hbl4 : bs4.length = ts.length := paired_len h24
          refine ⟨r, _, _, rfl, rfl, h14, by rw [List.length_map]; exact small1000 (by omega), ?_⟩
          refine ⟨_, _, ts ++ [(e1, e2, (1 + z4).toNat)], rfl, (B4.same s5).put nrp nrq, fun b u e hb => ?_, fun b u e hb hbr => ?_, ⟨bs4 ++ [t], ?_, paired_append (paired_mono (fun a e q => ?_) h24) (.cons ?_ .nil)⟩, fun e m => ?_, ?_⟩
          · rw [upd_ne (ne_of_none e nr)]
            exact s5 _ _ (b4 _ _ (b3 _ _ (s3 _ _ (b2 _ _ (b1 _ _ e hb) hb)) hb) hb)
          · rw [upd_ne hbr]
            exact s5 _ _ (b4 _ _ (b3 _ _ (s3 _ _ (b2 _ _ (c1 _ _ e hb hbr) hb)) hb) hb)
          · rw [upd_same, List.map_append] <;> rfl
          · rw [upd_ne (ne_of q h14 (fun z => by cases z))]
            exact q
          · rw [upd_ne ntr, upd_same]
            have : ((1 + z4).toNat : Int) = 1 + z4 := Int.toNat_of_nonneg (by omega)
            unfold tv
            rw [this]
          · rcases List.mem_append.mp m with q | q
            · exact hG e q
            · simp at q
              subst q
              exact ⟨hb.1, hb.2, show 1 ≤ (1 + z4).toNat by omega, show (1 + z4).toNat ≤ 9 by omega⟩
          · rw [List.length_append]
            show ts.length + 1 ≤ 14
            omega
        · exact ⟨_, _, ts, rfl, B2, b1.trans b2, fun b u e hb hbr => b2 _ _ (c1 _ _ e hb hbr) hb, hT2, hG, hL⟩
      · exact ⟨_, _, ts, rfl, B1, b1, c1, hT, hG, hL⟩
    · rintro σ H' ⟨y4, y5, ts, rfl, B1, b1, c1, hT, hG, hL⟩
      exact ⟨_, rfl, kk r H' ts nr B1 b1 hT hG hL⟩
end
end K

namespace K
open PySem PySem.Spec PyProof.Rows L2
open Sw (T3 Dist at? relax roundOf rounds)
abbrev sLFar : Stmt := top 24
section
variable {P : Program} {w : World} {K : PySem.W.Frag} {mg : Str → Option Value} {base : Heap}
theorem scLFar : FnScope ["_law_many", "_law_ties", "_law_goal", "_law_spans", "_law_both", "_law_turn", "_law_a", "_law_b", "_law_cost"] ["_law_many", "_law_ties", "_law_goal"] (defScope sLFar) := ⟨rfl, rfl, rfl, by decide +kernel, rfl, by decide +kernel, by decide +kernel⟩
theorem ok_lfar {f : Addr} {fd : FuncData} {k : Nat} (F : Fun K "_law_far" "_law_far" sLFar f fd) (mr : mg "range" = none) : FnOk P w K mg base CX0 (k + 1) f fd ["_law_many", "_law_ties", "_law_goal"] spLFar := by
  refine F.ok scLFar (fun vs H Q E h => ?_) (fun cdv A outer s H vs Q E hr h => ?_)
  · obtain ⟨n, g, t, ts, rfl, _⟩ := h
    rfl
  · obtain ⟨n, g, t, ts, rfl, hg, hn, hT, hlt, hF, kk⟩ := h
    refine ⟨_, pss_cons (ps_set (i := 3) scLFar.nd rfl (.inl rfl) (pe_op op_rep (pe_lst (pa_cons pe_non pa_nil)) (pv 0)))
      (pss_cons (ps_asg pe_int (pg_sub (pv 3) (pv 2) set_list))
      (pss_cons (ps_set (i := 4) scLFar.nd rfl (.inl rfl) (pe_op op_cat (pv 1)
        (pe_lc (own := [("_law_a", 6), ("_law_b", 7), ("_law_cost", 8)]) (g := gTup K 3 (gCons (gName 6) (gCons (gName 7) (gCons (gName 8) gNil)))) (tt := tYes) rfl scLFar.nd (pi_list (pv 1))
          (blkOk_by (own := [("_law_a", 6), ("_law_b", 7), ("_law_cost", 8)]) (N := ["_law_many", "_law_ties", "_law_goal", "_law_spans", "_law_both", "_law_turn", "_law_a", "_law_b", "_law_cost"]) (sc := defScope sLFar) (by decide +kernel))
          (fun _ _ _ _ _ => by exact (pg_tup rfl (pgs_cons (pg_name (i := 6) scLFar.nd rfl (Or.inl rfl)) (pgs_cons (pg_name (i := 7) scLFar.nd rfl (Or.inl rfl)) (pgs_cons (pg_name (i := 8) scLFar.nd rfl (Or.inl rfl)) pgs_nil))))) (fun _ _ _ _ _ => pts_nil)
          (fun _ _ _ _ _ => by exact (pe_tup (pa_cons (pv 7) (pa_cons (pv 6) (pa_cons (pv 8) pa_nil))))))))
      (pss_cons (ps_for PassesOwn.never rfl (pi_range1 rfl mr (pa_cons (pv 0) pa_nil)) (pg_name (i := 5) scLFar.nd rfl (Or.inl rfl))
        (pss_one (ps_for PassesOwn.never rfl (pi_list (pv 4)) (pg_tup rfl (pgs_cons (pg_name (i := 6) scLFar.nd rfl (Or.inl rfl)) (pgs_cons (pg_name (i := 7) scLFar.nd rfl (Or.inl rfl)) (pgs_cons (pg_name (i := 8) scLFar.nd rfl (Or.inl rfl)) pgs_nil))))
          (pss_one (ps_if (PW.pt (pw_and (pt_cmpR op_notN (pe_ix ix_list (pv 3) (pv 7) (fun _ _ => rfl)) pe_non (nomark _))
              (pw_and1 (PW.pt (pw_or (pt_cmpR op_isN (pe_ix ix_list (pv 3) (pv 6) (fun _ _ => rfl)) pe_non (nomark _))
                (pw_or1 (pt_cmpR op_lt (pe_op op_add (pe_ix ix_list (pv 3) (pv 7) (fun _ _ => rfl)) (pv 8)) (pe_ix ix_list (pv 3) (pv 6) (fun _ _ => rfl)) (nomark _))))))))
            (pss_one (ps_asg (pe_op op_add (pe_ix ix_list (pv 3) (pv 7) (fun _ _ => rfl)) (pv 8)) (pg_sub (pv 3) (pv 6) set_list))) pss_nil)))))
      (pss_one (ps_ret (pv 3)))))), ?_⟩
    refine ⟨(by show 1 ≤ sizeLine; decide), fun l nl => ?_⟩
    have s1 : Same H (upd H l (.lst [.non])) := same_upd nl
    refine ⟨_, rfl, l, n, _, rfl, rfl, upd_same, by omega, by omega, ?_, fun p np => ?_⟩
    · rw [Int.toNat_natCast]
      exact Nat.le_of_lt (small1000 (by show 1 * n ≤ 1000; omega))
    rw [Int.toNat_natCast, rep_non]
    have np0 : H p = none := s1.free np
    refine ⟨_, rfl, _, rfl, p, _, _, g, rfl, rfl, upd_same, ?_, ?_⟩
    · rw [List.length_map, List.length_replicate]; exact ixN_nat hg
    have e0 : ((List.replicate n (none : Option Nat)).map ov).set g (.int 0) = (Sw.start n g).map ov := by
      unfold Sw.start
      rw [← set_ov]
      rfl
    rw [e0]
    have s2 : Same H (upd (upd (upd H l (.lst [.non])) p (.lst ((List.replicate n (none : Option Nat)).map ov))) p (.lst ((Sw.start n g).map ov))) := fun b o e => by
      rw [upd_ne (ne_of_none e np0), upd_ne (ne_of_none e np0)]
      exact s1 _ _ e
    have hp0 : DistAt (upd (upd (upd H l (.lst [.non])) p (.lst ((List.replicate n (none : Option Nat)).map ov))) p (.lst ((Sw.start n g).map ov))) p (Sw.start n g) := upd_same
    revert s2 hp0
    generalize upd (upd (upd H l (.lst [.non])) p (.lst ((List.replicate n (none : Option Nat)).map ov))) p (.lst ((Sw.start n g).map ov)) = H0
    intro s2 hp0
    -- the ties the other way about
    obtain ⟨as, ht, hp⟩ := id hT
    have hlen := paired_len hp
    refine ⟨_, rfl, _, rfl, t, rfl, ⟨_, SqL.of (s2 _ _ ht)⟩, fun D nD => ?_⟩
    refine lc_list (K := K) (a := t) (xs := as.map V.ref) (fun i H' => Same H0 H' ∧ ∃ bs, H' D = some (.lst (bs.map V.ref)) ∧ Paired (fun b e => H' b = some (.tup (tv e))) bs ((ts.take i).map swp))
      ⟨same_upd nD, [], upd_same, .nil⟩ (fun i H' _ ⟨s3, _⟩ => SqL.of (s3 _ _ (s2 _ _ ht))) ?_ ?_
    · rintro i y H1 hi ⟨s3, bs, hD, hb⟩
      obtain ⟨a, ea, rfl⟩ := map_ref_at hi
      obtain ⟨e, ee, he⟩ := paired_at hp i a ea
      obtain ⟨e1, e2, e3⟩ := e
      have hil : i < ts.length := (List.getElem?_eq_some_iff.mp ee).1
      have hbl := paired_len hb
      rw [List.length_map, List.length_take] at hbl
      refine ⟨a, tv (e1, e2, e3), rfl, SqT.of (s3 _ _ (s2 _ _ he)), rfl, _, _, rfl, _, _, rfl, _, _, rfl, rfl, rfl, ?_⟩
      refine ⟨_, rfl, _, rfl, _, rfl, (by show 3 ≤ sizeLine; decide), fun q nq => ?_⟩
      have s4 := same_upd (o := .tup (tv (e2, e1, e3))) nq
      have nqD : q ≠ D := Ne.symm (ne_of_none hD nq)
      refine ⟨_, s4 _ _ hD, by rw [List.length_map]; exact small1000 (by omega), fun b o e => ?_, bs ++ [q], ?_, ?_⟩
      · rw [upd_ne (ne_of_none e nD)]
        exact s4 _ _ (s3 _ _ e)
      · rw [upd_same, List.map_append]
        rfl
      · rw [take_succ_of ee, List.map_append]
        refine paired_append (paired_mono (fun b e q => ?_) hb) (.cons ?_ .nil)
        · rw [upd_ne (ne_of q hD (fun z => by cases z))]
          exact s4 _ _ q
        · rw [upd_ne nqD]
          exact upd_same
    · rintro H1 ⟨s3, bs, hD, hb⟩
      rw [List.length_map, hlen, List.take_length] at hb
      have hbl := paired_len hb
      rw [List.length_map] at hbl
      refine ⟨t, D, as.map V.ref, bs.map V.ref, rfl, rfl, s3 _ _ (s2 _ _ ht), hD, ?_, fun c nc => ?_⟩
      · rw [List.length_map, List.length_map]
        exact Nat.le_of_lt (small1000 (by omega))
      have s4 := same_upd (o := .lst (as.map V.ref ++ bs.map V.ref)) nc
      have nc1 : H1 c = none := nc
      have hpc : Paired (fun a e => (upd H1 c (.lst (as.map V.ref ++ bs.map V.ref))) a = some (.tup (tv e))) (as ++ bs) (ts ++ ts.map swp) :=
        paired_append (paired_mono (fun a e q => s4 _ _ (s3 _ _ (s2 _ _ q))) hp) (paired_mono (fun a e q => s4 _ _ q) hb)
      have hc : (upd H1 c (.lst (as.map V.ref ++ bs.map V.ref))) c = some (.lst ((as ++ bs).map V.ref)) := by rw [upd_same, List.map_append]
      have s5 : Same H (upd H1 c (.lst (as.map V.ref ++ bs.map V.ref))) := s2.trans (s3.trans s4)
      have hp5 : DistAt (upd H1 c (.lst (as.map V.ref ++ bs.map V.ref))) p (Sw.start n g) := s4 _ _ (s3 _ _ hp0)
      have npc : p ≠ c := ne_of_none (s3 _ _ hp0) nc
      revert hpc hc s5 hp5
      generalize upd H1 c (.lst (as.map V.ref ++ bs.map V.ref)) = H5
      intro hpc hc s5 hp5
      have hF2 : ∀ e ∈ ts ++ ts.map swp, e.1 < n ∧ e.2.1 < n := fun e m => both_lt hF e ((lfar_mem ts e).mpr m)
      have hlen2 := paired_len hpc
      generalize hL : ts ++ ts.map swp = L at hpc hF2 hlen2
      have kk' : ∀ H', Same H H' → DistAt H' p (rounds L n (Sw.start n g)) → Q (.ref p) H' := fun H' a b => kk p H' np0 a (by unfold lfarD; rw [hL]; exact b)
      refine ⟨_, rfl, n, rfl, by omega, by omega, for_range (n := n) (fun i σ H' => ∃ y5 y6 y7 y8, σ = [some (.int (n : Nat)), some (.ref t), some (.int (g : Nat)), some (.ref p), some (.ref c), y5, y6, y7, y8] ∧ (∀ b o, H5 b = some o → b ≠ p → H' b = some o) ∧ DistAt H' p (rounds L i (Sw.start n g)))
        ⟨none, none, none, none, rfl, fun b o e _ => e, hp5⟩ ?_ ?_⟩
      · rintro i σ H' hi ⟨y5, y6, y7, y8, rfl, sm, hd⟩
        refine ⟨_, rfl, c, rfl, ⟨_, SqL.of (sm _ _ hc (Ne.symm npc))⟩, for_list (K := K) (a := c) (xs := (as ++ bs).map V.ref) (fun j σ H2 => ∃ z6 z7 z8, σ = [some (.int (n : Nat)), some (.ref t), some (.int (g : Nat)), some (.ref p), some (.ref c), some (.int (0 + (i : Int))), z6, z7, z8] ∧ (∀ b o, H5 b = some o → b ≠ p → H2 b = some o) ∧ DistAt H2 p (roundOf (L.take j) (rounds L i (Sw.start n g))))
          ⟨y6, y7, y8, rfl, sm, hd⟩ (fun j σ H2 _ ⟨_, _, _, _, q2, _⟩ => SqL.of (q2 _ _ hc (Ne.symm npc))) ?_ ?_⟩
        · rintro j y σ H2 hj ⟨z6, z7, z8, rfl, q2, h2⟩
          obtain ⟨a, ea, rfl⟩ := map_ref_at hj
          obtain ⟨e, ee, he⟩ := paired_at hpc j a ea
          obtain ⟨e1, e2, e3⟩ := e
          have hb := hF2 _ (List.mem_of_getElem? ee)
          have nap : a ≠ p := ne_of he hp5 (fun z => by cases z)
          have hstep : roundOf (L.take (j + 1)) (rounds L i (Sw.start n g)) = relax (roundOf (L.take j) (rounds L i (Sw.start n g))) (e1, e2, e3) := by
            rw [take_succ_of ee, roundOf_append]
            rfl
          have hdl : (roundOf (L.take j) (rounds L i (Sw.start n g))).length = n := by rw [Sw.round_len, Sw.rounds_len]; simp [Sw.start]
          generalize roundOf (L.take j) (rounds L i (Sw.start n g)) = d at h2 hdl hstep
          have ha := atI_nat (at_of (d := d) (v := e1) (by rw [hdl]; exact hb.1))
          have hbb := atI_nat (at_of (d := d) (v := e2) (by rw [hdl]; exact hb.2))
          refine ⟨a, tv (e1, e2, e3), rfl, SqT.of (q2 _ _ he nap), rfl, _, _, rfl, _, _, rfl, _, _, rfl, rfl, ?_⟩
          have fin : ∀ H3, (∀ b o, H2 b = some o → b ≠ p → H3 b = some o) → DistAt H3 p (relax d (e1, e2, e3)) → ∃ z6 z7 z8, [some (V.int (n : Nat)), some (.ref t), some (.int (g : Nat)), some (.ref p), some (.ref c), some (.int (0 + (i : Int))), some (.int (e1 : Nat)), some (.int (e2 : Nat)), some (.int (e3 : Nat))] = [some (.int (n : Nat)), some (.ref t), some (.int (g : Nat)), some (.ref p), some (.ref c), some (.int (0 + (i : Int))), z6, z7, z8] ∧ (∀ b o, H5 b = some o → b ≠ p → H3 b = some o) ∧ DistAt H3 p (roundOf (L.take (j + 1)) (rounds L i (Sw.start n g))) := fun H3 k3 h3 =>
            ⟨_, _, _, rfl, fun b o e hb => k3 _ _ (q2 _ _ e hb) hb, by rw [hstep]; exact h3⟩
          refine ⟨_, rfl, _, rfl, p, _, _, _, rfl, rfl, SqL.of h2, hbb, rfl, _, rfl, ?_⟩
          cases eb : at? d e2 with
          | none =>
            refine iteF ?_
            refine fin H2 (fun b o e _ => e) ?_
            unfold relax
            simp only [eb]
            exact h2
          | some y =>
            refine iteT ?_
            rw [eb] at hbb
            refine ⟨_, rfl, _, rfl, p, _, _, _, rfl, rfl, SqL.of h2, ha, rfl, _, rfl, ?_⟩
            have put : ∀ z : Nat, (z : Int) = (y : Int) + (e3 : Int) → upd H2 p (.lst ((d.map ov).set e1 (.int ((y : Int) + (e3 : Int))))) p = some (.lst ((d.set e1 (some z)).map ov)) := fun z hz => by
              rw [upd_same, ← set_ov, ← hz]
              rfl
            cases ea2 : at? d e1 with
            | none =>
              refine iteT ?_
              refine ⟨_, rfl, _, rfl, p, _, _, _, rfl, rfl, SqL.of h2, hbb, _, rfl, _, _, rfl, rfl, _, rfl, _, rfl, p, _, _, e1, rfl, rfl, h2, ?_, ?_⟩
              · rw [List.length_map]; exact ixN_nat (by rw [hdl]; exact hb.1)
              · refine fin _ (fun b o e hb => by rw [upd_ne hb]; exact e) ?_
                unfold relax
                simp only [eb, ea2]
                exact put (y + e3) (by omega)
            | some x =>
              refine iteF ?_
              rw [ea2] at ha
              refine ⟨_, rfl, _, rfl, p, _, _, _, rfl, rfl, SqL.of h2, hbb, _, rfl, _, _, rfl, rfl, _, rfl, _, rfl, p, _, _, _, rfl, rfl, SqL.of h2, ha, _, _, rfl, rfl, _, rfl, ?_⟩
              refine ite2 (fun l => ?_) (fun l => ?_)
              · have l : (y : Int) + (e3 : Int) < (x : Int) := of_decide_eq_true l
                refine ⟨_, rfl, _, rfl, p, _, _, _, rfl, rfl, SqL.of h2, hbb, _, rfl, _, _, rfl, rfl, _, rfl, _, rfl, p, _, _, e1, rfl, rfl, h2, ?_, ?_⟩
                · rw [List.length_map]; exact ixN_nat (by rw [hdl]; exact hb.1)
                · refine fin _ (fun b o e hb => by rw [upd_ne hb]; exact e) ?_
                  unfold relax
                  simp only [eb, ea2]
                  rw [if_pos (show y + e3 < x by omega)]
                  exact put (y + e3) (by omega)
              · have l : ¬ ((y : Int) + (e3 : Int) < (x : Int)) := fun q => l (decide_eq_true q)
                refine fin H2 (fun b o e _ => e) ?_
                unfold relax
                simp only [eb, ea2]
                rw [if_neg (show ¬ (y + e3 < x) by omega)]
                exact h2
        · rintro σ H2 ⟨z6, z7, z8, rfl, q2, h2⟩
          refine ⟨_, _, _, _, rfl, q2, ?_⟩
          rw [Sw.rounds_succ]
          rw [List.length_map, hlen2, List.take_length] at h2
          exact h2
      · rintro σ H' ⟨y5, y6, y7, y8, rfl, sm, hd⟩
        exact ⟨_, rfl, kk' H' (fun b o e => sm _ _ (s5 _ _ e) (ne_of_none e np0)) hd⟩
end
end K

namespace K
open PySem PySem.Spec PyProof.Rows L2
open Sw (T3 Dist at? relax roundOf rounds IsNext Cand IsFar nbr candL)
abbrev sNbr : Stmt := top 8
section
variable {P : Program} {w : World} {K : PySem.W.Frag} {mg : Str → Option Value} {base : Heap}
theorem scNbr : FnScope ["ties", "house", "pairs", "one", "other", "price"] ["ties", "house"] (defScope sNbr) := ⟨rfl, rfl, rfl, by decide +kernel, rfl, by decide +kernel, by decide +kernel⟩
theorem ok_nbr {f : Addr} {fd : FuncData} {k : Nat} (F : Fun K "neighbours" "neighbours" sNbr f fd) : FnOk P w K mg base CX0 (k + 1) f fd ["ties", "house"] spNbr := by
  refine F.ok scNbr (fun vs H Q E h => ?_) (fun cdv A outer s H vs Q E hr h => ?_)
  · obtain ⟨t, ts, h, rfl, _⟩ := h
    rfl
  · obtain ⟨t, ts, h, rfl, hT, hl, kk⟩ := h
    refine ⟨_, (pss_cons (ps_set (i := 2) scNbr.nd rfl (.inl rfl) (pe_lst pa_nil))
      (pss_cons (ps_for PassesOwn.never rfl (pi_list (pv 0)) (pg_tup rfl (pgs_cons (pg_name (i := 3) scNbr.nd rfl (Or.inl rfl)) (pgs_cons (pg_name (i := 4) scNbr.nd rfl (Or.inl rfl)) (pgs_cons (pg_name (i := 5) scNbr.nd rfl (Or.inl rfl)) pgs_nil))))
        (pss_cons (ps_if (pt_cmpR op_eq (pv 3) (pv 1) (nomark _))
          (pss_one (ps_expr (pe_bm PySem.F.plainAttrs_list PySem.F.slot_list_append PySem.F.type_list_append mt_append (pv 2) (pa_cons (pe_tup (pa_cons (pv 4) (pa_cons (pv 5) pa_nil))) pa_nil))))
          pss_nil)
        (pss_one (ps_if (pt_cmpR op_eq (pv 4) (pv 1) (nomark _))
          (pss_one (ps_expr (pe_bm PySem.F.plainAttrs_list PySem.F.slot_list_append PySem.F.type_list_append mt_append (pv 2) (pa_cons (pe_tup (pa_cons (pv 3) (pa_cons (pv 5) pa_nil))) pa_nil))))
          pss_nil))))
      (pss_one (ps_ret (pv 2))))), ?_⟩
    refine ⟨Nat.zero_le _, fun r nr => ?_⟩
    have s1 := same_upd (o := .lst []) nr
    obtain ⟨as, ht, hp⟩ := id hT
    have hlen := paired_len hp
    refine ⟨_, rfl, t, rfl, ⟨_, SqL.of (s1 _ _ ht)⟩, for_list (K := K) (a := t) (xs := as.map V.ref) (fun i σ H' => ∃ y3 y4 y5, σ = [some (.ref t), some (.int (h : Nat)), some (.ref r), y3, y4, y5] ∧ Same H H' ∧ NbrAt H' r (nbr (ts.take i) h))
      ⟨none, none, none, rfl, s1, ⟨[], upd_same, .nil⟩⟩ (fun i σ H' _ ⟨_, _, _, _, b, _⟩ => SqL.of (b _ _ ht)) ?_ ?_⟩
    · rintro i y σ H1 hi ⟨y3, y4, y5, rfl, s2, hN⟩
      obtain ⟨a, ea, rfl⟩ := map_ref_at hi
      obtain ⟨e, ee, he⟩ := paired_at hp i a ea
      obtain ⟨e1, e2, e3⟩ := e
      have hil : i < ts.length := (List.getElem?_eq_some_iff.mp ee).1
      have grow : ∀ {H2 : Hp} {L : List (Nat × Nat)} {u c : Nat}, Same H H2 → NbrAt H2 r L → L.length ≤ 999 → ∀ (D : Hp → Prop), (∀ H3, Same H H3 → NbrAt H3 r (L ++ [(u, c)]) → D H3) →
          ∃ bs : List Addr, H2 r = some (.lst (bs.map V.ref)) ∧ bs.length = L.length ∧ ∀ p, H2 p = none → (upd H2 p (.tup [.int (u : Nat), .int (c : Nat)])) r = some (.lst (bs.map V.ref)) ∧ D (upd (upd H2 p (.tup [.int (u : Nat), .int (c : Nat)])) r (.lst (bs.map V.ref ++ [.ref p]))) := by
        intro H2 L u c sH hL hz D hD
        obtain ⟨bs, h1, h2⟩ := hL
        refine ⟨bs, h1, paired_len h2, fun p np => ?_⟩
        have s3 := same_upd (o := .tup [.int (u : Nat), .int (c : Nat)]) np
        have npr : p ≠ r := Ne.symm (ne_of_none h1 np)
        refine ⟨s3 _ _ h1, hD _ (fun b o q => ?_) ⟨bs ++ [p], ?_, paired_append (paired_mono (fun a e q => ?_) h2) (.cons ?_ .nil)⟩⟩
        · rw [upd_ne (ne_of_none q nr)]
          exact s3 _ _ (sH _ _ q)
        · rw [upd_same, List.map_append]
          rfl
        · rw [upd_ne (ne_of q h1 (fun z => by cases z))]
          exact s3 _ _ q
        · rw [upd_ne npr]
          exact upd_same
      have hnl := Sw.nbr_len (ts.take i) h
      rw [List.length_take] at hnl
      refine ⟨a, tv (e1, e2, e3), rfl, SqT.of (s2 _ _ he), rfl, _, _, rfl, _, _, rfl, _, _, rfl, rfl, ?_⟩
      refine ⟨_, rfl, _, rfl, rfl, _, rfl, ?_⟩
      have step := Sw.nbr_snoc (ts.take i) (e1, e2, e3) h
      rw [← take_succ_of ee] at step
      -- the second half, from any row
      have half : ∀ {H2 : Hp} {L : List (Nat × Nat)}, Same H H2 → NbrAt H2 r L → L.length ≤ 999 → nbr (ts.take (i + 1)) h = L ++ (if e2 = h then [(e1, e3)] else []) → ∀ (D : Hp → Prop), (∀ H3, Same H H3 → NbrAt H3 r (nbr (ts.take (i + 1)) h) → D H3) →
          if decide (V.int (e2 : Nat) = V.int (h : Nat)) = true then ∃ bs : List Addr, H2 r = some (.lst (bs.map V.ref)) ∧ bs.length = L.length ∧ ∀ p, H2 p = none → (upd H2 p (.tup [.int (e1 : Nat), .int (e3 : Nat)])) r = some (.lst (bs.map V.ref)) ∧ D (upd (upd H2 p (.tup [.int (e1 : Nat), .int (e3 : Nat)])) r (.lst (bs.map V.ref ++ [.ref p]))) else D H2 := by
        intro H2 L sH hL hz hE D hD
        refine ite2 (fun c => ?_) (fun c => ?_)
        · have c := of_decide_eq_true c
          injection c with c
          refine grow sH hL hz D fun H3 s3 n3 => hD H3 s3 ?_
          rw [hE, if_pos (by omega)]
          exact n3
        · have c : ¬ e2 = h := fun q => c (by rw [q]; exact decide_eq_true rfl)
          refine hD H2 sH ?_
          rw [hE, if_neg c, List.append_nil]
          exact hL
      refine ite2 (fun c => ?_) (fun c => ?_)
      · have c := of_decide_eq_true c
        injection c with c
        have c : e1 = h := by omega
        rw [if_pos c] at step
        obtain ⟨bs, hb1, hb2, hb3⟩ := grow (u := e2) (c := e3) s2 hN (by omega) (fun H3 => Same H H3 ∧ NbrAt H3 r (nbr (ts.take i) h ++ [(e2, e3)])) fun H3 a b => ⟨a, b⟩
        refine ⟨_, rfl, .inl ⟨rfl, _, SqL.of hb1⟩, _, rfl, _, rfl, (by show 2 ≤ sizeLine; decide), fun p np => ?_⟩
        obtain ⟨hb4, s3, hN3⟩ := hb3 p np
        refine ⟨r, _, _, rfl, rfl, hb4, by rw [List.length_map]; exact small1000 (by omega), ?_⟩
        refine ⟨_, rfl, _, rfl, rfl, _, rfl, ?_⟩
        have hf := half s3 hN3 (by rw [List.length_append]; show _ + 1 ≤ 999; omega) (by rw [step, ← List.append_assoc]) (fun H3 => ∃ y3 y4 y5, [some (V.ref t), some (.int (h : Nat)), some (.ref r), some (.int (e1 : Nat)), some (.int (e2 : Nat)), some (.int (e3 : Nat))] = [some (V.ref t), some (.int (h : Nat)), some (.ref r), y3, y4, y5] ∧ Same H H3 ∧ NbrAt H3 r (nbr (ts.take (i + 1)) h)) fun H3 a b => ⟨_, _, _, rfl, a, b⟩
        refine ite2 (fun c2 => ?_) (fun c2 => ?_)
        · rw [if_pos c2] at hf
          obtain ⟨cs, hc1, hc2, hc3⟩ := hf
          refine ⟨_, rfl, .inl ⟨rfl, _, SqL.of hc1⟩, _, rfl, _, rfl, (by show 2 ≤ sizeLine; decide), fun p2 np2 => ?_⟩
          obtain ⟨hc4, hD⟩ := hc3 p2 np2
          exact ⟨r, _, _, rfl, rfl, hc4, by rw [List.length_map]; exact small1000 (by rw [hc2, List.length_append]; show _ + 1 ≤ 1000; omega), hD⟩
        · rw [if_neg c2] at hf
          exact hf
      · have c : ¬ e1 = h := fun q => c (by rw [q]; exact decide_eq_true rfl)
        rw [if_neg c, List.nil_append] at step
        refine ⟨_, rfl, _, rfl, rfl, _, rfl, ?_⟩
        have hf := half s2 hN (by omega) step (fun H3 => ∃ y3 y4 y5, [some (V.ref t), some (.int (h : Nat)), some (.ref r), some (.int (e1 : Nat)), some (.int (e2 : Nat)), some (.int (e3 : Nat))] = [some (V.ref t), some (.int (h : Nat)), some (.ref r), y3, y4, y5] ∧ Same H H3 ∧ NbrAt H3 r (nbr (ts.take (i + 1)) h)) fun H3 a b => ⟨_, _, _, rfl, a, b⟩
        refine ite2 (fun c2 => ?_) (fun c2 => ?_)
        · rw [if_pos c2] at hf
          obtain ⟨cs, hc1, hc2, hc3⟩ := hf
          refine ⟨_, rfl, .inl ⟨rfl, _, SqL.of hc1⟩, _, rfl, _, rfl, (by show 2 ≤ sizeLine; decide), fun p2 np2 => ?_⟩
          obtain ⟨hc4, hD⟩ := hc3 p2 np2
          exact ⟨r, _, _, rfl, rfl, hc4, by rw [List.length_map]; exact small1000 (by omega), hD⟩
        · rw [if_neg c2] at hf
          exact hf
    · rintro σ H1 ⟨y3, y4, y5, rfl, s2, hN⟩
      rw [List.length_map, hlen, List.take_length] at hN
      exact ⟨_, rfl, kk r H1 nr s2 hN⟩
end
end K

namespace K
open PySem PySem.Spec PyProof.Rows L2
open Sw (T3 Dist at? relax roundOf rounds IsNext Cand IsFar nbr candL)
abbrev sNextH : Stmt := top 11
abbrev sNexts : Stmt := top 12
section
variable {P : Program} {w : World} {K : PySem.W.Frag} {mg : Str → Option Value} {base : Heap}
theorem scNextH : FnScope ["prices", "ties", "goal", "house", "near", "price"] ["prices", "ties", "goal", "house"] (defScope sNextH) := ⟨rfl, rfl, rfl, by decide +kernel, rfl, by decide +kernel, by decide +kernel⟩
theorem min_cand {E : List T3} {d : Dist} {h : Nat} {L : List (Nat × Nat)} (hL : ∀ u c, (u, c) ∈ L ↔ (h, u, c) ∈ E) {m : Int} (hm : m ∈ (candL d h L).map (fun (u : Nat) => (u : Int))) (hl : ∀ y, y ∈ (candL d h L).map (fun (u : Nat) => (u : Int)) → m ≤ y) :
    ∃ u : Nat, m = (u : Int) ∧ Cand E d h u ∧ ∀ v, Cand E d h v → u ≤ v := by
  obtain ⟨u, hu, rfl⟩ := List.mem_map.mp hm
  refine ⟨u, rfl, (Sw.candL_mem hL u).mp hu, fun v hv => ?_⟩
  have := hl (v : Int) (List.mem_map.mpr ⟨v, (Sw.candL_mem hL v).mpr hv, rfl⟩)
  omega
theorem ok_nexth {f fN : Addr} {fd fdN : FuncData} {k : Nat} (F : Fun K "next_house" "next_house" sNextH f fd) (T : BT mg) (cneighbours : Cal P w K mg base (k + 1) "neighbours" fN fdN ["ties", "house"] spNbr) : FnOk P w K mg base CX0 (k + 2) f fd ["prices", "ties", "goal", "house"] spNextH := by
  refine F.ok scNextH (fun vs H Q E h => ?_) (fun cdv A outer s H vs Q E hr h => ?_)
  · obtain ⟨p, t, d, ts, n, g, h, rfl, _⟩ := h
    rfl
  · obtain ⟨p, t, d, ts, n, g, h, rfl, hp, hT, hl, hF, hI, hh, kk⟩ := h
    refine ⟨_, (pss_cons (ps_if (PW.pt (pw_or (pt_cmpR op_eq (pv 3) (pv 2) (nomark _)) (pw_or1 (pt_cmpR op_isN (pe_ix (r := rIxL K) ix_list (pv 0) (pv 3) (fun _ _ => rfl)) pe_non (nomark _)))))
        (pss_one (ps_ret pe_non))
        pss_nil)
      (pss_one (ps_ret (pe_callB (cr_min rfl) (by rfl) T.min (by decide +kernel) (pa_cons (pe_lc (own := [("near", 4), ("price", 5)]) (g := (gTup K 2 (gCons (gName 4) (gCons (gName 5) gNil)))) rfl scNextH.nd (by exact (pi_list (pe_call cneighbours.ok hr (by rfl) cneighbours.g cneighbours.kp cneighbours.b .nil pass0 (pa_cons (pv 1) (pa_cons (pv 3) pa_nil))))) (blkOk_by (own := [("near", 4), ("price", 5)]) (N := ["prices", "ties", "goal", "house", "near", "price"]) (sc := (defScope sNextH)) (by decide +kernel)) (fun _ _ _ _ _ => by exact (pg_tup rfl (pgs_cons (pg_name (i := 4) scNextH.nd rfl (Or.inl rfl)) (pgs_cons (pg_name (i := 5) scNextH.nd rfl (Or.inl rfl)) pgs_nil)))) (fun _ _ _ _ _ => by exact (pts_one (pt_cmpR op_eq (pe_op op_add (pe_ix (r := rIxL K) ix_list (pv 0) (pv 4) (fun _ _ => rfl)) (pv 5)) (pe_ix (r := rIxL K) ix_list (pv 0) (pv 3) (fun _ _ => rfl)) (nomark _)))) (fun _ _ _ _ _ => by exact (pv 4))) pa_nil))))), ?_⟩
    have hd := hI.len
    have hat := atI_nat (at_of (d := d) (v := h) (by omega))
    refine ⟨_, rfl, _, rfl, rfl, _, rfl, ?_⟩
    refine ite2 (fun c => ?_) (fun c => ?_)
    · have c := of_decide_eq_true c
      injection c with c
      exact kk none H (.inl (by omega)) (Same.refl H)
    · have c : h ≠ g := fun q => c (by rw [q]; exact decide_eq_true rfl)
      refine ⟨_, rfl, _, rfl, p, _, _, _, rfl, rfl, SqL.of hp, hat, rfl, _, rfl, ?_⟩
      cases eh : at? d h with
      | none =>
        refine iteT ?_
        exact kk none H (.inr eh) (Same.refl H)
      | some ch =>
        refine iteF ?_
        rw [eh] at hat
        have hL := nbr_both ts h
        have hh0 : at? d h ≠ none := by rw [eh]; exact fun z => by cases z
        refine ⟨_, rfl, _, rfl, t, ts, h, rfl, hT, hl, fun b H1 nb s1 hN => ?_⟩
        obtain ⟨bs, hb, hpb⟩ := hN
        have hbl := paired_len hpb
        have hnl := Sw.nbr_len ts h
        refine ⟨b, rfl, ⟨_, SqL.of hb⟩, fun D nD => ?_⟩
        refine lc_list (K := K) (a := b) (xs := bs.map V.ref) (fun i H' => Same H1 H' ∧ H' D = some (.lst ((candL d h ((nbr ts h).take i)).map fun u => V.int (u : Nat))))
          ⟨same_upd nD, upd_same⟩ (fun i H' _ ⟨s2, _⟩ => SqL.of (s2 _ _ hb)) ?_ ?_
        · rintro i y H2 hi ⟨s2, hD⟩
          obtain ⟨a, ea, rfl⟩ := map_ref_at hi
          obtain ⟨e, ee, he⟩ := paired_at hpb i a ea
          obtain ⟨u, c'⟩ := e
          have hmem := (hL u c').mp (List.mem_of_getElem? ee)
          obtain ⟨y, ey⟩ := Sw.near_some hI (both_sym ts) hmem hh0
          have hu : u < d.length := by rw [hd]; exact (both_lt hF _ hmem).2
          have hau := atI_nat (at_of hu)
          rw [ey] at hau
          have hp2 := s2 _ _ (s1 _ _ hp)
          refine ⟨a, [.int (u : Nat), .int (c' : Nat)], rfl, SqT.of (s2 _ _ he), rfl, _, _, rfl, _, _, rfl, rfl, rfl, ?_⟩
          refine ⟨_, rfl, _, rfl, p, _, _, _, rfl, rfl, SqL.of hp2, hau, _, rfl, _, _, rfl, rfl, _, rfl, _, rfl, p, _, _, _, rfl, rfl, SqL.of hp2, hat, rfl, _, rfl, ?_⟩
          have step := Sw.candL_snoc d h ((nbr ts h).take i) (u, c')
          rw [← take_succ_of ee] at step
          have hts : Sw.test d h (u, c') = decide (ch = y + c') := by
            unfold Sw.test
            simp only [ey, eh, Option.some.injEq]
          refine ite2 (fun c2 => ?_) (fun c2 => ?_)
          · have c2 := of_decide_eq_true c2
            injection c2 with c2
            have c2 : (y : Int) + (c' : Int) = (ch : Int) := c2
            rw [hts, if_pos (decide_eq_true (by omega))] at step
            refine ⟨_, rfl, _, hD, ?_, fun x o q => ?_, ?_⟩
            · rw [List.length_map]
              have h1 := Sw.candL_len d h ((nbr ts h).take i)
              rw [List.length_take] at h1
              exact small1000 (by omega)
            · rw [upd_ne (ne_of_none q nD)]
              exact s2 _ _ q
            · rw [upd_same, step, List.map_append]
              rfl
          · have c2 : ¬ (y : Int) + (c' : Int) = (ch : Int) := fun q => c2 (decide_eq_true (congrArg V.int q))
            rw [hts, if_neg (fun z => c2 (by have := of_decide_eq_true z; omega)), List.append_nil] at step
            exact ⟨s2, by rw [step]; exact hD⟩
        · rintro H2 ⟨s2, hD⟩
          rw [List.length_map, hbl, List.take_length] at hD
          refine ⟨D, (candL d h (nbr ts h)).map (fun (u : Nat) => (u : Int)), rfl, .inl (.inl (by rw [hD, List.map_map]; rfl)), ?_, fun m hm hmin => ?_⟩
          · obtain ⟨u, hu⟩ := Sw.cand_ex hI c eh
            rw [List.length_map]
            exact List.length_pos_of_mem ((Sw.candL_mem hL u).mpr hu)
          · obtain ⟨u, rfl, hu, hmin⟩ := min_cand hL hm hmin
            exact kk (some u) H2 ⟨c, hh0, hu, hmin⟩ (s1.trans s2)
theorem scNexts : FnScope ["many", "ties", "goal", "prices", "house"] ["many", "ties", "goal"] (defScope sNexts) := ⟨rfl, rfl, rfl, by decide +kernel, rfl, by decide +kernel, by decide +kernel⟩
theorem ok_nexts {f fN fF : Addr} {fd fdN fdF : FuncData} {k : Nat} (F : Fun K "nexts" "nexts" sNexts f fd) (T : BT mg) (cfar : Cal P w K mg base (k + 2) "far" fF fdF ["many", "ties", "goal"] spFar) (cnext_house : Cal P w K mg base (k + 2) "next_house" fN fdN ["prices", "ties", "goal", "house"] spNextH) :
    FnOk P w K mg base CX0 (k + 3) f fd ["many", "ties", "goal"] spNexts := by
  refine F.ok scNexts (fun vs H Q E h => ?_) (fun cdv A outer s H vs Q E hr h => ?_)
  · obtain ⟨n, g, t, ts, rfl, _⟩ := h
    rfl
  · obtain ⟨n, g, t, ts, rfl, hg, hn, hT, hl, hF, kk⟩ := h
    refine ⟨_, (pss_cons (ps_set (i := 3) scNexts.nd rfl (.inr rfl) (pe_call cfar.ok hr (by rfl) cfar.g cfar.kp cfar.b .nil pass0 (pa_cons (pv 0) (pa_cons (pv 1) (pa_cons (pv 2) pa_nil)))))
      (pss_one (ps_ret (pe_lc (own := [("house", 4)]) (g := (gName 4)) (tt := tYes) rfl scNexts.nd (by exact (pi_range1 (by rfl) T.range (pa_cons (pv 0) pa_nil))) (blkOk_by (own := [("house", 4)]) (N := ["many", "ties", "goal", "prices", "house"]) (sc := (defScope sNexts)) (by decide +kernel)) (fun _ _ _ _ _ => by exact (pg_name (i := 4) scNexts.nd rfl (Or.inl rfl))) (fun _ _ _ _ _ => by exact pts_nil) (fun _ _ _ _ _ => by exact (pe_call cnext_house.ok hr (by rfl) cnext_house.g cnext_house.kp cnext_house.b .nil pass0 (pa_cons (pv 3) (pa_cons (pv 1) (pa_cons (pv 2) (pa_cons (pv 4) pa_nil)))))))))), ?_⟩
    refine ⟨_, rfl, _, rfl, _, rfl, n, g, t, ts, rfl, hg, hn, hT, hF, fun p H1 np s1 hp => ?_⟩
    have hI := farD_is hF hg
    refine ⟨_, rfl, n, rfl, by omega, by omega, fun D nD => ?_⟩
    refine lc_range (lo := 0) (n := n) (fun i H' => Same H1 H' ∧ ∃ xs : List (Option Nat), H' D = some (.lst (xs.map ov)) ∧ xs.length = i ∧ ∀ h < i, IsNext (both ts) (farD n ts g) g h (at? xs h))
      ⟨same_upd nD, [], upd_same, rfl, fun h z => absurd z (Nat.not_lt_zero _)⟩ ?_ ?_
    · rintro i H2 hi ⟨s2, xs, hD, hxl, hx⟩
      refine ⟨rfl, ?_⟩
      refine ⟨_, rfl, _, rfl, _, rfl, _, rfl, p, t, farD n ts g, ts, n, g, i, by rw [Int.zero_add]; rfl, s2 _ _ hp, (hT.same s1).same s2, hl, hF, hI, hi, fun x H3 hx3 s3 => ?_⟩
      refine ⟨_, s3 _ _ hD, by rw [List.length_map]; exact small1000 (by omega), fun b o q => ?_, xs ++ [x], ?_, by rw [List.length_append, hxl]; rfl, fun h hh => ?_⟩
      · rw [upd_ne (ne_of_none q nD)]
        exact s3 _ _ (s2 _ _ q)
      · rw [upd_same, List.map_append]
        rfl
      · unfold at?
        by_cases hlt : h < i
        · rw [List.getElem?_append_left (by omega)]
          exact hx h hlt
        · have : h = i := by omega
          subst this
          rw [List.getElem?_append_right (by omega), hxl, Nat.sub_self]
          exact hx3
    · rintro H2 ⟨s2, xs, hD, hxl, hx⟩
      exact kk D H2 (s1.free nD) (s1.trans s2) ⟨xs, hD, hxl, hx⟩
end
end K

namespace K
open PySem PySem.Spec PyProof.Rows L2
open Sw (T3 Dist at? relax roundOf rounds IsNext Cand IsFar nbr candL fl1 fl2)
abbrev sLNext : Stmt := top 25
section
variable {P : Program} {w : World} {K : PySem.W.Frag} {mg : Str → Option Value} {base : Heap}
theorem scLNext : FnScope ["_law_many", "_law_ties", "_law_house", "_law_goal", "_law_spans", "_law_some", "_law_a", "_law_b", "_law_cost"] ["_law_many", "_law_ties", "_law_house", "_law_goal"] (defScope sLNext) := ⟨rfl, rfl, rfl, by decide +kernel, rfl, by decide +kernel, by decide +kernel⟩
theorem ok_lnext {f fL : Addr} {fd fdL : FuncData} {k : Nat} (F : Fun K "_law_next" "_law_next" sLNext f fd) (T : BT mg) (c_law_far : Cal P w K mg base (k + 1) "_law_far" fL fdL ["_law_many", "_law_ties", "_law_goal"] spLFar) : FnOk P w K mg base CX0 (k + 2) f fd ["_law_many", "_law_ties", "_law_house", "_law_goal"] spLNext := by
  refine F.ok scLNext (fun vs H Q E h => ?_) (fun cdv A outer s H vs Q E hr h => ?_)
  · obtain ⟨n, g, h, t, ts, rfl, _⟩ := h
    rfl
  · obtain ⟨n, g, h, t, ts, rfl, hg, hh, hn, hT, hl, hG, kk⟩ := h
    refine ⟨_, (pss_cons (ps_set (i := 4) scLNext.nd rfl (.inr rfl) (pe_call c_law_far.ok hr (by rfl) c_law_far.g c_law_far.kp c_law_far.b .nil pass0 (pa_cons (pv 0) (pa_cons (pv 1) (pa_cons (pv 3) pa_nil)))))
      (pss_cons (ps_set (i := 5) scLNext.nd rfl (.inl rfl) (pe_op op_cat (pe_lc (own := [("_law_a", 6), ("_law_b", 7), ("_law_cost", 8)]) (g := (gTup K 3 (gCons (gName 6) (gCons (gName 7) (gCons (gName 8) gNil))))) rfl scLNext.nd (by exact (pi_list (pv 1))) (blkOk_by (own := [("_law_a", 6), ("_law_b", 7), ("_law_cost", 8)]) (N := ["_law_many", "_law_ties", "_law_house", "_law_goal", "_law_spans", "_law_some", "_law_a", "_law_b", "_law_cost"]) (sc := (defScope sLNext)) (by decide +kernel)) (fun _ _ _ _ _ => by exact (pg_tup rfl (pgs_cons (pg_name (i := 6) scLNext.nd rfl (Or.inl rfl)) (pgs_cons (pg_name (i := 7) scLNext.nd rfl (Or.inl rfl)) (pgs_cons (pg_name (i := 8) scLNext.nd rfl (Or.inl rfl)) pgs_nil))))) (fun _ _ _ _ _ => by exact (pts_one (pt_cmpR op_eq (pv 6) (pv 2) (nomark _)))) (fun _ _ _ _ _ => by exact (pe_tup (pa_cons (pv 7) (pa_cons (pv 8) pa_nil))))) (pe_lc (own := [("_law_a", 6), ("_law_b", 7), ("_law_cost", 8)]) (g := (gTup K 3 (gCons (gName 6) (gCons (gName 7) (gCons (gName 8) gNil))))) rfl scLNext.nd (by exact (pi_list (pv 1))) (blkOk_by (own := [("_law_a", 6), ("_law_b", 7), ("_law_cost", 8)]) (N := ["_law_many", "_law_ties", "_law_house", "_law_goal", "_law_spans", "_law_some", "_law_a", "_law_b", "_law_cost"]) (sc := (defScope sLNext)) (by decide +kernel)) (fun _ _ _ _ _ => by exact (pg_tup rfl (pgs_cons (pg_name (i := 6) scLNext.nd rfl (Or.inl rfl)) (pgs_cons (pg_name (i := 7) scLNext.nd rfl (Or.inl rfl)) (pgs_cons (pg_name (i := 8) scLNext.nd rfl (Or.inl rfl)) pgs_nil))))) (fun _ _ _ _ _ => by exact (pts_one (pt_cmpR op_eq (pv 7) (pv 2) (nomark _)))) (fun _ _ _ _ _ => by exact (pe_tup (pa_cons (pv 6) (pa_cons (pv 8) pa_nil)))))))
      (pss_cons (ps_setLc (i := 5) (own := [("_law_b", 7), ("_law_cost", 8)]) (g := (gTup K 2 (gCons (gName 7) (gCons (gName 8) gNil)))) rfl scLNext.nd rfl rfl (sw_true rfl rfl rfl (by decide +kernel)) (by exact (pi_list (pv 5))) (blkOk_by (own := [("_law_b", 7), ("_law_cost", 8)]) (N := ["_law_many", "_law_ties", "_law_house", "_law_goal", "_law_spans", "_law_some", "_law_a", "_law_b", "_law_cost"]) (sc := (defScope sLNext)) (by decide +kernel)) (fun _ _ _ _ _ => by exact (pg_tup rfl (pgs_cons (pg_name (i := 7) scLNext.nd rfl (Or.inl rfl)) (pgs_cons (pg_name (i := 8) scLNext.nd rfl (Or.inl rfl)) pgs_nil)))) (fun _ _ _ _ _ => by exact (pts_one (PW.pt (pw_and (pt_cmpR op_notN (pe_ix (r := rIxL K) ix_list (pv 4) (pv 7) (fun _ _ => rfl)) pe_non (nomark _)) (pw_and1 (pt_cmpR op_eq (pe_ix (r := rIxL K) ix_list (pv 4) (pv 2) (fun _ _ => rfl)) (pe_op op_add (pe_ix (r := rIxL K) ix_list (pv 4) (pv 7) (fun _ _ => rfl)) (pv 8)) (nomark _))))))) (fun _ _ _ _ _ => by exact (pv 7)))
      (pss_one (ps_ret (pe_callBK (cr_minD rfl) (by rfl) T.min (by decide +kernel) (pa_cons (pv 5) pa_nil) (pk_cons pe_non pk_nil))))))), ?_⟩
    refine ⟨_, rfl, _, rfl, _, rfl, n, g, t, ts, rfl, hg, hn, hT, hl, hG.fits, fun p H1 np s1 hp => ?_⟩
    rw [far_lfar hG.fits hg] at hp
    have hI := farD_is hG.fits hg
    have hd := hI.len
    obtain ⟨as, ht, hpt⟩ := id (hT.same s1)
    have hal := paired_len hpt
    -- the first row
    refine ⟨_, rfl, t, rfl, ⟨_, SqL.of ht⟩, fun D nD => ?_⟩
    refine lc_list (K := K) (a := t) (xs := as.map V.ref) (fun i H' => Same H1 H' ∧ NbrAt H' D (fl1 (ts.take i) h)) ⟨same_upd nD, ⟨[], upd_same, .nil⟩⟩ (fun i H' _ ⟨s2, _⟩ => SqL.of (s2 _ _ ht)) ?_ ?_
    · rintro i y H2 hi ⟨s2, hN⟩
      obtain ⟨a, ea, rfl⟩ := map_ref_at hi
      obtain ⟨e, ee, he⟩ := paired_at hpt i a ea
      obtain ⟨e1, e2, e3⟩ := e
      have step := Sw.fl1_snoc (ts.take i) (e1, e2, e3) h
      rw [← take_succ_of ee] at step
      refine ⟨a, tv (e1, e2, e3), rfl, SqT.of (s2 _ _ he), rfl, _, _, rfl, _, _, rfl, _, _, rfl, rfl, rfl, ?_⟩
      refine ⟨_, rfl, _, rfl, rfl, _, rfl, ?_⟩
      refine ite2 (fun c => ?_) (fun c => ?_)
      · have c := of_decide_eq_true c
        injection c with c
        have c : (e1 : Int) = (h : Int) := c
        have c : e1 = h := by omega
        rw [if_pos c] at step
        refine ⟨_, rfl, _, rfl, (by show 2 ≤ sizeLine; decide), fun r nr => ?_⟩
        obtain ⟨bs, h1, h2⟩ := hN
        have s3 := same_upd (o := .tup [.int (e2 : Nat), .int (e3 : Nat)]) nr
        have nrD : r ≠ D := Ne.symm (ne_of_none h1 nr)
        have hbl := paired_len h2
        have hfl := Sw.fl1_len (ts.take i) h
        rw [List.length_take] at hfl
        refine ⟨_, s3 _ _ h1, by rw [List.length_map]; exact small1000 (by omega), fun b o q => ?_, bs ++ [r], ?_, ?_⟩
        · rw [upd_ne (ne_of_none q nD)]
          exact s3 _ _ (s2 _ _ q)
        · rw [upd_same, List.map_append]
          rfl
        · rw [step]
          refine paired_append (paired_mono (fun a e q => ?_) h2) (.cons ?_ .nil)
          · rw [upd_ne (ne_of q h1 (fun z => by cases z))]
            exact s3 _ _ q
          · rw [upd_ne nrD]
            exact upd_same
      · have c : ¬ e1 = h := fun q => c (by rw [q]; exact decide_eq_true rfl)
        rw [if_neg c, List.append_nil] at step
        exact ⟨s2, by rw [step]; exact hN⟩
    rintro H2 ⟨s2, hN⟩
    rw [List.length_map, hal, List.take_length] at hN
    -- the second row
    refine ⟨_, rfl, t, rfl, ⟨_, SqL.of (s2 _ _ ht)⟩, fun D2 nD2 => ?_⟩
    refine lc_list (K := K) (a := t) (xs := as.map V.ref) (fun i H' => Same H2 H' ∧ NbrAt H' D2 (fl2 (ts.take i) h)) ⟨same_upd nD2, ⟨[], upd_same, .nil⟩⟩ (fun i H' _ ⟨s3, _⟩ => SqL.of (s3 _ _ (s2 _ _ ht))) ?_ ?_
    · rintro i y H3 hi ⟨s3, hN3⟩
      obtain ⟨a, ea, rfl⟩ := map_ref_at hi
      obtain ⟨e, ee, he⟩ := paired_at hpt i a ea
      obtain ⟨e1, e2, e3⟩ := e
      have step := Sw.fl2_snoc (ts.take i) (e1, e2, e3) h
      rw [← take_succ_of ee] at step
      refine ⟨a, tv (e1, e2, e3), rfl, SqT.of (s3 _ _ (s2 _ _ he)), rfl, _, _, rfl, _, _, rfl, _, _, rfl, rfl, rfl, ?_⟩
      refine ⟨_, rfl, _, rfl, rfl, _, rfl, ?_⟩
      refine ite2 (fun c => ?_) (fun c => ?_)
      · have c := of_decide_eq_true c
        injection c with c
        have c : (e2 : Int) = (h : Int) := c
        have c : e2 = h := by omega
        rw [if_pos c] at step
        refine ⟨_, rfl, _, rfl, (by show 2 ≤ sizeLine; decide), fun r nr => ?_⟩
        obtain ⟨bs, h1, h2⟩ := hN3
        have s4 := same_upd (o := .tup [.int (e1 : Nat), .int (e3 : Nat)]) nr
        have nrD : r ≠ D2 := Ne.symm (ne_of_none h1 nr)
        have hbl := paired_len h2
        have hfl := Sw.fl2_len (ts.take i) h
        rw [List.length_take] at hfl
        refine ⟨_, s4 _ _ h1, by rw [List.length_map]; exact small1000 (by omega), fun b o q => ?_, bs ++ [r], ?_, ?_⟩
        · rw [upd_ne (ne_of_none q nD2)]
          exact s4 _ _ (s3 _ _ q)
        · rw [upd_same, List.map_append]
          rfl
        · rw [step]
          refine paired_append (paired_mono (fun a e q => ?_) h2) (.cons ?_ .nil)
          · rw [upd_ne (ne_of q h1 (fun z => by cases z))]
            exact s4 _ _ q
          · rw [upd_ne nrD]
            exact upd_same
      · have c : ¬ e2 = h := fun q => c (by rw [q]; exact decide_eq_true rfl)
        rw [if_neg c, List.append_nil] at step
        exact ⟨s3, by rw [step]; exact hN3⟩
    rintro H3 ⟨s3, hN3⟩
    rw [List.length_map, hal, List.take_length] at hN3
    obtain ⟨bs, hb1, hb2⟩ := id (hN.same s3)
    obtain ⟨cs, hc1, hc2⟩ := id hN3
    have hl1 := Sw.fl1_len ts h
    have hl2 := Sw.fl2_len ts h
    have hbl := paired_len hb2
    have hcl := paired_len hc2
    refine ⟨D, D2, _, _, rfl, rfl, hb1, hc1, ?_, fun r nr => ?_⟩
    · rw [List.length_map, List.length_map]
      exact Nat.le_of_lt (small1000 (by omega))
    have s4 := same_upd (o := .lst (bs.map V.ref ++ cs.map V.ref)) nr
    have hL : ∀ u c, (u, c) ∈ fl1 ts h ++ fl2 ts h ↔ (h, u, c) ∈ both ts := fun u c => by rw [Sw.fl_mem, both_mem]
    have hNL : NbrAt (upd H3 r (.lst (bs.map V.ref ++ cs.map V.ref))) r (fl1 ts h ++ fl2 ts h) := ⟨bs ++ cs, by rw [upd_same, List.map_append], paired_append (paired_mono (fun a e q => s4 _ _ q) hb2) (paired_mono (fun a e q => s4 _ _ q) hc2)⟩
    have hLl : (fl1 ts h ++ fl2 ts h).length ≤ 800 := by rw [List.length_append]; omega
    have hp4 := s4 _ _ (s3 _ _ (s2 _ _ hp))
    have s14 : Same H (upd H3 r (.lst (bs.map V.ref ++ cs.map V.ref))) := s1.trans (s2.trans (s3.trans s4))
    revert hNL hp4 s14
    generalize upd H3 r (.lst (bs.map V.ref ++ cs.map V.ref)) = H4
    generalize hLe : fl1 ts h ++ fl2 ts h = L at hL hLl
    intro hNL hp4 s14
    obtain ⟨es, he1, he2⟩ := hNL
    have hel := paired_len he2
    have hat := atI_nat (at_of (d := farD n ts g) (v := h) (by omega))
    generalize hdd : farD n ts g = d at hI hd hp4 hat kk
    refine ⟨_, rfl, r, rfl, ⟨_, SqL.of he1⟩, fun D3 nD3 => ?_⟩
    refine lc_list (K := K) (a := r) (xs := es.map V.ref) (fun i H' => Same H4 H' ∧ H' D3 = some (.lst ((candL d h (L.take i)).map fun u => V.int (u : Nat)))) ⟨same_upd nD3, upd_same⟩ (fun i H' _ ⟨s5, _⟩ => SqL.of (s5 _ _ he1)) ?_ ?_
    · rintro i y H5 hi ⟨s5, hD5⟩
      obtain ⟨a, ea, rfl⟩ := map_ref_at hi
      obtain ⟨e, ee, he⟩ := paired_at he2 i a ea
      obtain ⟨u, c'⟩ := e
      have hmem := (hL u c').mp (List.mem_of_getElem? ee)
      have hu : u < d.length := by rw [hd]; exact (both_lt hG.fits _ hmem).2
      have hau := atI_nat (at_of hu)
      have hp5 := s5 _ _ hp4
      have step := Sw.candL_snoc d h (L.take i) (u, c')
      rw [← take_succ_of ee] at step
      refine ⟨a, [.int (u : Nat), .int (c' : Nat)], rfl, SqT.of (s5 _ _ he), rfl, _, _, rfl, _, _, rfl, rfl, rfl, ?_⟩
      refine ⟨_, rfl, _, rfl, p, _, _, _, rfl, rfl, SqL.of hp5, hau, rfl, _, rfl, ?_⟩
      cases ey : at? d u with
      | none =>
        have hts : Sw.test d h (u, c') = false := by
          unfold Sw.test
          simp only [ey]
        rw [hts, if_neg (fun z => by cases z), List.append_nil] at step
        refine iteF ?_
        exact ⟨s5, by rw [step]; exact hD5⟩
      | some y =>
        refine iteT ?_
        rw [ey] at hau
        have hts : Sw.test d h (u, c') = decide (at? d h = some (y + c')) := by
          unfold Sw.test
          simp only [ey]
        refine ⟨_, rfl, _, rfl, p, _, _, _, rfl, rfl, SqL.of hp5, hat, _, rfl, _, rfl, p, _, _, _, rfl, rfl, SqL.of hp5, hau, _, rfl, _, _, rfl, rfl, ?_⟩
        have hsc : scal (ov (at? d h)) (V.int ((y : Int) + (c' : Int))) = true := by cases at? d h <;> rfl
        have hdec : decide (ov (at? d h) = V.int ((y : Int) + (c' : Int))) = decide (at? d h = some (y + c')) := by
          apply decide_eq_decide.mpr
          cases at? d h with
          | none => exact ⟨fun z => (by cases z), fun z => (by cases z)⟩
          | some x =>
            constructor
            · intro z
              injection z with z
              congr 1
              omega
            · intro z
              injection z with z
              show V.int (x : Nat) = _
              congr 1
              omega
        refine ⟨hsc, _, rfl, ?_⟩
        show if decide (ov (at? d h) = V.int ((y : Int) + (c' : Int))) = true then _ else _
        rw [hdec, ← hts]
        refine ite2 (fun c2 => ?_) (fun c2 => ?_)
        · rw [if_pos c2] at step
          refine ⟨_, rfl, _, hD5, ?_, fun x o q => ?_, ?_⟩
          · rw [List.length_map]
            have h1 := Sw.candL_len d h (L.take i)
            rw [List.length_take] at h1
            exact small1000 (by omega)
          · rw [upd_ne (ne_of_none q nD3)]
            exact s5 _ _ q
          · rw [upd_same, step, List.map_append]
            rfl
        · rw [if_neg c2, List.append_nil] at step
          exact ⟨s5, by rw [step]; exact hD5⟩
    · rintro H5 ⟨s5, hD5⟩
      rw [List.length_map, hel, List.take_length] at hD5
      refine ⟨_, rfl, D3, (candL d h L).map (fun (u : Nat) => (u : Int)), .non, rfl, rfl, .inl (.inl (by rw [hD5, List.map_map]; rfl)), fun hz => ?_, fun m hm hmin => ?_⟩
      · refine kk none H5 ?_ (s14.trans s5)
        by_cases c : h = g
        · exact .inl c
        · right
          cases eh : at? d h with
          | none => rfl
          | some ch =>
            obtain ⟨u, hu⟩ := Sw.cand_ex hI c eh
            have := (Sw.candL_mem hL u).mpr hu
            rw [List.map_eq_nil_iff] at hz
            rw [hz] at this
            cases this
      · obtain ⟨u, rfl, hu, hmin⟩ := min_cand hL hm hmin
        refine kk (some u) H5 ⟨?_, ?_, hu, hmin⟩ (s14.trans s5)
        · intro c
          obtain ⟨c', y, m, _, e2⟩ := hu
          rw [c, Sw.far_goal hI] at e2
          have : 1 ≤ c' := by
            rcases (both_mem ts _).mp m with z | z
            · exact (hG _ z).2.2.1
            · exact (hG _ z).2.2.1
          injection e2 with e2
          omega
        · obtain ⟨c', y, m, _, e2⟩ := hu
          rw [e2]
          exact fun z => by cases z
end
end K

namespace K
open PySem PySem.Spec PyProof.Rows L2
abbrev sSlipI : Stmt := inClass (top 1) 0
section
variable {P : Program} {w : World} {K : PySem.W.Frag} {mg : Str → Option Value} {base : Heap}
theorem scSlipI : FnScope ["self", "word", "why"] ["self", "word", "why"] (defScope sSlipI) := ⟨rfl, rfl, rfl, by decide +kernel, rfl, by decide +kernel, by decide +kernel⟩
theorem ok_slipI {f CS fS : Addr} {fd : FuncData} {k : Nat} {dvs : List V} (F : FunD K "__init__" "SlipError.__init__" (defArgs sSlipI) (defBody sSlipI) (defScope sSlipI) dvs [] f fd) (T : SlipT K mg CS fS) : FnOk P w K mg base CX0 (k + 1) f fd ["self", "word", "why"] (spSlip K) := by
  refine F.ok scSlipI (fun vs H Q E h => ?_) (fun cdv A outer s H vs Q E hr h => ?_)
  · obtain ⟨a, C, wd, y, rfl, _⟩ := h
    rfl
  · obtain ⟨a, C, wd, y, rfl, oex, hw, ha, q⟩ := h
    refine ⟨_, PSs.nox (pss_cons (ps_expr (pe_veinit (by rfl) T.mV T.vV (pa_cons (pv 0) (pa_cons (pv 2) pa_nil)))) (pss_one (ps_ost (pv 0) (pv 1)))), ?_⟩
    refine ⟨_, rfl, _, rfl, a, C, [.str y], rfl, (by show 1 ≤ 1000; decide), oex, ha, ?_⟩
    exact ⟨_, rfl, _, rfl, a, C, rfl, oex, hw, .inl ⟨ha, fun dx n ne => q dx n ne⟩⟩
end
end K

namespace K
open PySem PySem.Spec PyProof.Rows L2
section
variable {P : Program} {w : World} {K : PySem.W.Frag} {mg : Str → Option Value} {base : Heap}
theorem ok_slipIH {f CS fS : Addr} {fd : FuncData} {k : Nat} {dvs : List V} (F : FunD K "__init__" "SlipError.__init__" (defArgs sSlipI) (defBody sSlipI) (defScope sSlipI) dvs [] f fd) (T : SlipT K mg CS fS) : L2H.FnH P w K mg base CX0 (k + 1) f fd ["self", "word", "why"] (spSlip K) := by
  refine F.okH scSlipI (fun vs H Q E h => ?_) (fun cdv A outer s H vs Q E p hp hr h => ?_)
  · obtain ⟨a, C, wd, y, rfl, _⟩ := h
    rfl
  · obtain ⟨a, C, wd, y, rfl, oex, hw, ha, q⟩ := h
    refine ⟨_, pss_cons (ps_expr (pe_veinit (by rfl) T.mV T.vV (pa_cons (pv 0) (pa_cons (pv 2) pa_nil)))) (pss_one (ps_ost (pv 0) (pv 1))), ?_⟩
    refine ⟨_, rfl, _, rfl, a, C, [.str y], rfl, (by show 1 ≤ 1000; decide), oex, ha, ?_⟩
    exact ⟨_, rfl, _, rfl, a, C, rfl, oex, hw, .inl ⟨ha, fun dx n ne => q dx n ne⟩⟩
end
end K

namespace K
open PySem PySem.Spec PyProof.Rows L2
abbrev sNoHouseI : Stmt := inClass (top 2) 0
section
variable {P : Program} {w : World} {K : PySem.W.Frag} {mg : Str → Option Value} {base : Heap}
theorem scNoHouseI : FnScope ["self", "house"] ["self", "house"] (defScope sNoHouseI) := ⟨rfl, rfl, rfl, by decide +kernel, rfl, by decide +kernel, by decide +kernel⟩
theorem ok_nohouseI {f CS fS : Addr} {fd fdS : FuncData} {k : Nat} (F : Fun K "__init__" "NoHouse.__init__" sNoHouseI f fd) (T : SlipT K mg CS fS) (GS : FnOk P w K mg base CX0 (k + 1) fS fdS ["self", "word", "why"] (spSlip K)) (bS : Binds K fdS ["self", "word", "why"] []) : FnOk P w K mg base CX0 (k + 2) f fd ["self", "house"] (spIn1 K "house" "nohouse" askInt gotSame) := by
  refine F.ok scNoHouseI (fun vs H Q E h => ?_) (fun cdv A outer s H vs Q E hr h => ?_)
  · obtain ⟨a, C, v, rfl, _⟩ := h
    rfl
  · obtain ⟨a, C, v, rfl, hask, oex, hw, hf, ha, q⟩ := h
    refine ⟨_, pss_cons (ps_expr (pe_clsf (pe_glob (v := .ref CS) (by rfl) T.g rfl) T.r T.at_ GS hr T.kp bS pass0 (pa_cons (pv 0) (pa_cons pe_str (pa_cons (pe_joined (.cons pe_str (.cons (pe_fmt (pv 1)) .nil))) pa_nil))))) (pss_one (ps_ost (pv 0) (pv 1))), ?_⟩
    obtain ⟨i, rfl, hi⟩ := hask
    refine ⟨rfl, _, rfl, _, rfl, by decide +kernel, _, rfl, .inr ⟨i, rfl, hi, _, rfl, join2_le (by decide +kernel) (Nat.le_trans (PyProof.Rows.int_text_len_1921 hi) (by decide)), ?_⟩⟩
    refine ⟨a, C, _, _, rfl, oex, hw, ha, fun dx nd ne => ?_⟩
    refine ⟨_, rfl, _, rfl, a, C, rfl, oex, hf, .inr ⟨dx, _, upd_same, by rw [upd_ne ne]; exact upd_same, (by show 1 ≤ 900; decide), ?_⟩⟩
    refine q dx _ _ nd ne (fun b o e hb => ?_) ?_ upd_same rfl
    · rw [upd_ne (ne_of_none e nd), upd_ne hb, upd_ne (ne_of_none e nd)]
      exact e
    · rw [upd_ne (Ne.symm ne)]
      exact upd_same
end
end K

namespace K
open PySem PySem.Spec PyProof.Rows L2
abbrev sNoTieI : Stmt := inClass (top 3) 0
section
variable {P : Program} {w : World} {K : PySem.W.Frag} {mg : Str → Option Value} {base : Heap}
theorem scNoTieI : FnScope ["self", "one", "other"] ["self", "one", "other"] (defScope sNoTieI) := ⟨rfl, rfl, rfl, by decide +kernel, rfl, by decide +kernel, by decide +kernel⟩
theorem join4_le {c m e n : Str} (hc : (Str.empty ++ c).length ≤ 1000) (hm : m.length ≤ 2000) (he : e.length ≤ 1000) (hn : n.length ≤ 2000) : ((((Str.empty ++ c) ++ m) ++ e) ++ n).length ≤ sizeLine := by
  rw [strLen_append, strLen_append, strLen_append, sizeLine_eq]
  omega
theorem ok_notieI {f CS fS : Addr} {fd fdS : FuncData} {k : Nat} (F : Fun K "__init__" "NoTie.__init__" sNoTieI f fd) (T : SlipT K mg CS fS) (GS : FnOk P w K mg base CX0 (k + 1) fS fdS ["self", "word", "why"] (spSlip K)) (bS : Binds K fdS ["self", "word", "why"] []) : FnOk P w K mg base CX0 (k + 2) f fd ["self", "one", "other"] (spIn2 K "one" "other" "notie") := by
  refine F.ok scNoTieI (fun vs H Q E h => ?_) (fun cdv A outer s H vs Q E hr h => ?_)
  · obtain ⟨a, C, i, j, rfl, _⟩ := h
    rfl
  · obtain ⟨a, C, i, j, rfl, hi, hj, oex, hw, hf, hg, ha, q⟩ := h
    refine ⟨_, pss_cons (ps_expr (pe_clsf (pe_glob (v := .ref CS) (by rfl) T.g rfl) T.r T.at_ GS hr T.kp bS pass0 (pa_cons (pv 0) (pa_cons pe_str (pa_cons (pe_joined (.cons pe_str (.cons (pe_fmt (pv 1)) (.cons pe_str (.cons (pe_fmt (pv 2)) .nil))))) pa_nil))))) (pss_cons (ps_ost (pv 0) (pv 1)) (pss_one (ps_ost (pv 0) (pv 2)))), ?_⟩
    refine ⟨rfl, _, rfl, _, rfl, by decide +kernel, _, rfl, .inr ⟨i, rfl, hi, _, rfl, join2_le (by decide +kernel) (Nat.le_trans (PyProof.Rows.int_text_len_1921 hi) (by decide)), ?_⟩⟩
    refine ⟨_, rfl, join3_le (by decide +kernel) (Nat.le_trans (PyProof.Rows.int_text_len_1921 hi) (by decide)) (by decide +kernel), _, rfl, .inr ⟨j, rfl, hj, _, rfl, join4_le (by decide +kernel) (Nat.le_trans (PyProof.Rows.int_text_len_1921 hi) (by decide)) (by decide +kernel) (Nat.le_trans (PyProof.Rows.int_text_len_1921 hj) (by decide)), ?_⟩⟩
    refine ⟨a, C, _, _, rfl, oex, hw, ha, fun dx nd ne => ?_⟩
    refine ⟨_, rfl, _, rfl, a, C, rfl, oex, hf, .inr ⟨dx, _, upd_same, by rw [upd_ne ne]; exact upd_same, (by show 1 ≤ 900; decide), ?_⟩⟩
    refine ⟨_, rfl, _, rfl, a, C, rfl, oex, hg, .inr ⟨dx, _, by rw [upd_ne (Ne.symm ne)]; exact upd_same, upd_same, (by show 2 ≤ 900; decide), ?_⟩⟩
    refine q dx _ nd ne (fun b o e hb => ?_) ?_ upd_same
    · rw [upd_ne (ne_of_none e nd), upd_ne (ne_of_none e nd), upd_ne hb, upd_ne (ne_of_none e nd)]
      exact e
    · rw [upd_ne (Ne.symm ne), upd_ne (Ne.symm ne)]
      exact upd_same
end
end K

namespace K
open PySem PySem.Spec PyProof.Rows L2
abbrev sNoWayI : Stmt := inClass (top 4) 0
section
variable {P : Program} {w : World} {K : PySem.W.Frag} {mg : Str → Option Value} {base : Heap}
theorem scNoWayI : FnScope ["self", "lot"] ["self", "lot"] (defScope sNoWayI) := ⟨rfl, rfl, rfl, by decide +kernel, rfl, by decide +kernel, by decide +kernel⟩
theorem ok_nowayI {f CS fS : Addr} {fd fdS : FuncData} {k : Nat} (F : Fun K "__init__" "NoWay.__init__" sNoWayI f fd) (T : SlipT K mg CS fS) (GS : FnOk P w K mg base CX0 (k + 1) fS fdS ["self", "word", "why"] (spSlip K)) (bS : Binds K fdS ["self", "word", "why"] []) (ml : mg "list" = none) : FnOk P w K mg base CX0 (k + 2) f fd ["self", "lot"] (spIn1 K "lot" "noway" (askLot K) gotLot) := by
  refine F.ok scNoWayI (fun vs H Q E h => ?_) (fun cdv A outer s H vs Q E hr h => ?_)
  · obtain ⟨a, C, v, rfl, _⟩ := h
    rfl
  · obtain ⟨a, C, v, rfl, hask, oex, hw, hf, ha, q⟩ := h
    refine ⟨_, pss_cons (ps_expr (pe_clsf (pe_glob (v := .ref CS) (by rfl) T.g rfl) T.r T.at_ GS hr T.kp bS pass0 (pa_cons (pv 0) (pa_cons pe_str (pa_cons (pe_joined (.cons pe_str (.cons (pe_fmtL hr (pv 1)) .nil))) pa_nil))))) (pss_one (ps_ost (pv 0) (pe_callTy call_list_of (by rfl) ml (by decide +kernel) (pa_cons (pv 1) pa_nil)))), ?_⟩
    obtain ⟨l, ns, rfl, hl, hz, hd⟩ := hask
    refine ⟨rfl, _, rfl, _, rfl, by decide +kernel, _, rfl, l, ns, rfl, SqL.of hl, hz, hd, fun m hm => ⟨m, rfl, join2_le (by decide +kernel) (by omega), ?_⟩⟩
    refine ⟨a, C, _, _, rfl, oex, hw, ha, fun dx nd ne => ?_⟩
    have hla : l ≠ a := ext_ne_lst ha hl
    have hl2 : (upd (upd H dx (exd dx [("word", .str "noway")])) a (exo a C (some dx))) l = some (.lst (ns.map V.int)) := by
      rw [upd_ne hla, upd_ne (ne_of_none hl nd)]
      exact hl
    refine ⟨_, rfl, l, _, rfl, .inl (SqL.of hl2), fun l2 nl2 => ?_⟩
    have h2a : l2 ≠ a := fun z => by
      subst z
      rw [upd_same] at nl2
      cases nl2
    have h2d : l2 ≠ dx := fun z => by
      subst z
      rw [upd_ne ne, upd_same] at nl2
      cases nl2
    refine ⟨_, rfl, a, C, rfl, oex, hf, .inr ⟨dx, _, by rw [upd_ne (Ne.symm h2a)]; exact upd_same, by rw [upd_ne (Ne.symm h2d), upd_ne ne]; exact upd_same, (by show 1 ≤ 900; decide), ?_⟩⟩
    have nll : l ≠ l2 := ne_of_none hl2 nl2
    have hld : l ≠ dx := ne_of_none hl nd
    refine q dx (.ref l2) _ nd ne (fun b o e hb => ?_) ?_ upd_same ⟨l, l2, ns.map V.int, rfl, rfl, ?_, ?_, nll, by rw [upd_ne h2a, upd_ne h2d] at nl2; exact nl2⟩
    · have e2 : (upd (upd H dx (exd dx [("word", .str "noway")])) a (exo a C (some dx))) b = some o := by
        rw [upd_ne hb, upd_ne (ne_of_none e nd)]
        exact e
      rw [upd_ne (ne_of_none e nd), upd_ne (ne_of_none e2 nl2)]
      exact e2
    · rw [upd_ne (Ne.symm ne), upd_ne (Ne.symm h2a)]
      exact upd_same
    · rw [upd_ne hld, upd_ne nll]
      exact hl2
    · rw [upd_ne h2d]
      exact upd_same
end
end K

namespace K
open PySem PySem.Spec PyProof.Rows L2
abbrev sLoneI : Stmt := inClass (top 5) 0
section
variable {P : Program} {w : World} {K : PySem.W.Frag} {mg : Str → Option Value} {base : Heap}
theorem scLoneI : FnScope ["self", "lot"] ["self", "lot"] (defScope sLoneI) := ⟨rfl, rfl, rfl, by decide +kernel, rfl, by decide +kernel, by decide +kernel⟩
theorem ok_loneIH {f CS fS : Addr} {fd fdS : FuncData} {k : Nat} (F : Fun K "__init__" "Lone.__init__" sLoneI f fd) (T : SlipT K mg CS fS) (GS : L2H.FnH P w K mg base CX0 (k + 1) fS fdS ["self", "word", "why"] (spSlip K)) (bS : Binds K fdS ["self", "word", "why"] []) (ml : mg "list" = none)   : L2H.FnH P w K mg base CX0 (k + 2) f fd ["self", "lot"] (spIn1 K "lot" "lone" (askLot K) gotLot) := by
  refine F.okH scLoneI (fun vs H Q E h => ?_) (fun cdv A outer s H vs Q E hp0 hp hr h => ?_)
  · obtain ⟨a, C, v, rfl, _⟩ := h
    rfl
  · obtain ⟨a, C, v, rfl, hask, oex, hw, hf, ha, q⟩ := h
    refine ⟨_, pss_cons (ps_expr (pe_clsfH (E := E0) (pe_glob (v := .ref CS) (by rfl) T.g rfl) T.r T.at_ GS hr (hotC_cxH hp) T.kp bS pass0H (pa_cons (pv 0) (pa_cons pe_str (pa_cons (pe_joined (.cons pe_str (.cons (pe_fmtLu (L2H.RoomH.u2 hr) (pv 1)) .nil))) pa_nil))))) (pss_one (ps_ost (pv 0) (pe_callTy call_list_of (by rfl) ml (by decide +kernel) (pa_cons (pv 1) pa_nil)))), ?_⟩
    obtain ⟨l, ns, rfl, hl, hz, hd⟩ := hask
    refine ⟨rfl, _, rfl, _, rfl, by decide +kernel, _, rfl, l, ns, rfl, SqL.of hl, hz, hd, fun m hm => ⟨m, rfl, join2_le (by decide +kernel) (by omega), ?_⟩⟩
    refine ⟨a, C, _, _, rfl, oex, hw, ha, fun dx nd ne => ?_⟩
    have hla : l ≠ a := ext_ne_lst ha hl
    have hl2 : (upd (upd H dx (exd dx [("word", .str "lone")])) a (exo a C (some dx))) l = some (.lst (ns.map V.int)) := by
      rw [upd_ne hla, upd_ne (ne_of_none hl nd)]
      exact hl
    refine ⟨_, rfl, l, _, rfl, .inl (SqL.of hl2), fun l2 nl2 => ?_⟩
    have h2a : l2 ≠ a := fun z => by
      subst z
      rw [upd_same] at nl2
      cases nl2
    have h2d : l2 ≠ dx := fun z => by
      subst z
      rw [upd_ne ne, upd_same] at nl2
      cases nl2
    refine ⟨_, rfl, a, C, rfl, oex, hf, .inr ⟨dx, _, by rw [upd_ne (Ne.symm h2a)]; exact upd_same, by rw [upd_ne (Ne.symm h2d), upd_ne ne]; exact upd_same, (by show 1 ≤ 900; decide), ?_⟩⟩
    have nll : l ≠ l2 := ne_of_none hl2 nl2
    have hld : l ≠ dx := ne_of_none hl nd
    refine q dx (.ref l2) _ nd ne (fun b o e hb => ?_) ?_ upd_same ⟨l, l2, ns.map V.int, rfl, rfl, ?_, ?_, nll, by rw [upd_ne h2a, upd_ne h2d] at nl2; exact nl2⟩
    · have e2 : (upd (upd H dx (exd dx [("word", .str "lone")])) a (exo a C (some dx))) b = some o := by
        rw [upd_ne hb, upd_ne (ne_of_none e nd)]
        exact e
      rw [upd_ne (ne_of_none e nd), upd_ne (ne_of_none e2 nl2)]
      exact e2
    · rw [upd_ne (Ne.symm ne), upd_ne (Ne.symm h2a)]
      exact upd_same
    · rw [upd_ne hld, upd_ne nll]
      exact hl2
    · rw [upd_ne h2d]
      exact upd_same
end
end K

namespace K
open PySem PySem.Spec PyProof.Rows L2
open Sw (T3 Dist at? relax roundOf rounds IsNext Cand IsFar nbr candL WayTo lotOf)
abbrev sCheck2 : Stmt := sCheck
section
variable {P : Program} {w : World} {K : PySem.W.Frag} {mg : Str → Option Value} {base : Heap}
theorem ok_checkN {f CH fI : Addr} {fd fdI : FuncData} {k : Nat} (F : Fun K "check_house" "check_house" sCheck f fd) (T : ExcC P w K mg base (k + 2) "NoHouse" CH fI fdI ["self", "house"] (spIn1 K "house" "nohouse" askInt gotSame)) (hfld : PySem.W.findIn K (.ref CH) "house" = some none) : FnOk P w K mg base (L2N.CX P w) (k + 4) f fd ["many", "house"] (spCheckX CH) := by
  refine F.okN scCheck (fun vs H Q E h => ?_) (fun cdv A outer s H vs Q E hr h => ?_)
  · obtain ⟨n, h, rfl, _⟩ := h
    rfl
  · obtain ⟨n, h, rfl, hh, hy, hno⟩ := h
    have hr3 : Room (k + 3) _ := hr
    refine ⟨_, pss_one (ps_if (PW.pt (pw_or (pt_cmpR op_lt (pv 1) pe_int (nomark _)) (pw_or1 (pt_cmpR op_ge (pv 1) (pv 0) (nomark _)))))
      (pss_one (L2N.ps_raise rfl (L2N.takes_of rfl rfl rfl rfl) (pmkN_oex T.t.oex T.t.iC T.t.tI T.ok hr3 T.b .nil pass0 (by rfl) T.t.g (pa_cons (pv 1) pa_nil)))) pss_nil), ?_⟩
    have go : ¬ (0 ≤ h ∧ h < n) → tMkO CH (spIn1 K "house" "nohouse" askInt gotSame) [] (tCons (tVar 1) tNil) (L2.start ["many", "house"] [.int (n : Nat), .int h]) H fun cls d H' => E cls d H' := fun c => by
      refine ⟨_, rfl, (by show 1 ≤ 1000; decide), fun a na => ?_⟩
      have hX := hno c
      refine ⟨a, CH, _, rfl, ⟨h, rfl, hh⟩, T.t.oex, T.t.word, hfld, upd_same, fun dx v' H2 nd ne k2 ha2 hd2 hv => ⟨rfl, dx, _, ha2, hd2, ?_, ?_⟩⟩
      · rw [upd_ne ne] at nd
        exact nd
      · have hv : v' = .int h := hv
        subst hv
        have nd0 : H dx = none := by rw [upd_ne ne] at nd; exact nd
        exact hX dx _ nd0 (raised_same na (fun b o e hb => k2 b o (by rw [upd_ne hb]; exact e) hb) nd0) upd_same
    refine ⟨_, rfl, _, _, rfl, rfl, _, rfl, ?_⟩
    refine ite2 (fun c => ?_) (fun c => ?_)
    · have c := of_decide_eq_true c
      exact iteT (go (by omega))
    · have c : ¬ h < 0 := fun z => c (decide_eq_true z)
      refine ⟨_, rfl, _, rfl, _, _, rfl, rfl, _, rfl, ?_⟩
      refine ite2 (fun c2 => ?_) (fun c2 => ?_)
      · have c2 := of_decide_eq_true c2
        exact go (by omega)
      · have c2 : ¬ (n : Int) ≤ h := fun z => c2 (decide_eq_true z)
        exact hy (by omega)
end
end K

namespace K
open PySem PySem.Spec PyProof.Rows L2
open Sw (T3 Dist at? relax roundOf rounds IsNext Cand IsFar nbr candL WayTo lotOf)
abbrev sReach : Stmt := top 13
abbrev sLeast : Stmt := top 14
theorem lot_succ (i : Nat) (d : Dist) : lotOf (i + 1) d = lotOf i d ++ (if (at? d i).isSome = true then [i] else []) := by
  unfold lotOf
  rw [List.range_succ, List.filter_append]
  congr 1
  simp only [List.filter_cons, List.filter_nil]
theorem lot_len (i : Nat) (d : Dist) : (lotOf i d).length ≤ i := by
  unfold lotOf
  have := List.length_filter_le (fun h => (at? d h).isSome) (List.range i)
  rwa [List.length_range] at this
section
variable {P : Program} {w : World} {K : PySem.W.Frag} {mg : Str → Option Value} {base : Heap}
theorem scReach : FnScope ["many", "ties", "start", "prices", "house"] ["many", "ties", "start"] (defScope sReach) := ⟨rfl, rfl, rfl, by decide +kernel, rfl, by decide +kernel, by decide +kernel⟩
theorem ok_reach {f fF : Addr} {fd fdF : FuncData} {k : Nat} (F : Fun K "reached" "reached" sReach f fd) (T : BT mg) (cfar : Cal P w K mg base (k + 2) "far" fF fdF ["many", "ties", "goal"] spFar) : FnOk P w K mg base CX0 (k + 3) f fd ["many", "ties", "start"] spReach := by
  refine F.ok scReach (fun vs H Q E h => ?_) (fun cdv A outer s H vs Q E hr h => ?_)
  · obtain ⟨n, g, t, ts, rfl, _⟩ := h
    rfl
  · obtain ⟨n, g, t, ts, rfl, hg, hn, hT, hF, kk⟩ := h
    refine ⟨_, (pss_cons (ps_set (i := 3) scReach.nd rfl (.inr rfl) (pe_call cfar.ok hr (by rfl) cfar.g cfar.kp cfar.b .nil pass0 (pa_cons (pv 0) (pa_cons (pv 1) (pa_cons (pv 2) pa_nil)))))
      (pss_one (ps_ret (pe_lc (own := [("house", 4)]) (g := (gName 4)) rfl scReach.nd (by exact (pi_range1 (by rfl) T.range (pa_cons (pv 0) pa_nil))) (blkOk_by (own := [("house", 4)]) (N := ["many", "ties", "start", "prices", "house"]) (sc := (defScope sReach)) (by decide +kernel)) (fun _ _ _ _ _ => by exact (pg_name (i := 4) scReach.nd rfl (Or.inl rfl))) (fun _ _ _ _ _ => by exact (pts_one (pt_cmpR op_notN (pe_ix (r := rIxL K) ix_list (pv 3) (pv 4) (fun _ _ => rfl)) pe_non (nomark _)))) (fun _ _ _ _ _ => by exact (pv 4)))))), ?_⟩
    refine ⟨_, rfl, _, rfl, _, rfl, n, g, t, ts, rfl, hg, hn, hT, hF, fun p H1 np s1 hp => ?_⟩
    have hI := farD_is hF hg
    have hd := hI.len
    generalize farD n ts g = d at hI hd hp kk
    refine ⟨_, rfl, n, rfl, by omega, by omega, fun D nD => ?_⟩
    refine lc_range (lo := 0) (n := n) (fun i H' => Same H1 H' ∧ H' D = some (.lst ((lotOf i d).map fun h => V.int (h : Nat)))) ⟨same_upd nD, upd_same⟩ ?_ ?_
    · rintro i H2 hi ⟨s2, hD⟩
      refine ⟨rfl, ?_⟩
      have ha := atI_nat (at_of (d := d) (v := i) (by omega))
      rw [show (i : Int) = 0 + (i : Int) by omega] at ha
      refine ⟨_, rfl, _, rfl, p, _, _, _, rfl, rfl, SqL.of (s2 _ _ hp), ha, rfl, _, rfl, ?_⟩
      have step := lot_succ i d
      cases ei : at? d i with
      | none =>
        refine iteF ?_
        rw [ei] at step
        have step : lotOf (i + 1) d = lotOf i d := by rw [step]; simp
        exact ⟨s2, by rw [step]; exact hD⟩
      | some c =>
        refine iteT ?_
        rw [ei] at step
        have step : lotOf (i + 1) d = lotOf i d ++ [i] := by rw [step]; simp
        have hl := lot_len i d
        refine ⟨_, rfl, _, hD, by rw [List.length_map]; exact small1000 (by omega), fun b o q => ?_, ?_⟩
        · rw [upd_ne (ne_of_none q nD)]
          exact s2 _ _ q
        · rw [upd_same, step, List.map_append, Int.zero_add]
          rfl
    · rintro H2 ⟨s2, hD⟩
      exact kk D H2 (s1.free nD) (s1.trans s2) hD
theorem scLeast : FnScope ["many", "ties", "start", "goal", "price", "onward", "way"] ["many", "ties", "start", "goal"] (defScope sLeast) := ⟨rfl, rfl, rfl, by decide +kernel, rfl, by decide +kernel, by decide +kernel⟩
theorem ok_leastN {f CH CW fC fF fN fR fI : Addr} {fd fdC fdF fdN fdR fdI : FuncData} {k : Nat} (F : Fun K "least_way" "least_way" sLeast f fd) (T : BT mg) (ccheck_house : CalN P w K mg base (k + 5) "check_house" fC fdC ["many", "house"] (spCheckX CH)) (cfar : Cal P w K mg base (k + 5) "far" fF fdF ["many", "ties", "goal"] spFar)
    (cnexts : Cal P w K mg base (k + 5) "nexts" fN fdN ["many", "ties", "goal"] spNexts) (creached : Cal P w K mg base (k + 5) "reached" fR fdR ["many", "ties", "start"] spReach) (TW : ExcC P w K mg base (k + 4) "NoWay" CW fI fdI ["self", "lot"] (spIn1 K "lot" "noway" (askLot K) gotLot)) (hfld : PySem.W.findIn K (.ref CW) "lot" = some none) :
    FnOk P w K mg base (L2N.CX P w) (k + 6) f fd ["many", "ties", "start", "goal"] (spLeastX CH CW) := by
  refine F.okN scLeast (fun vs H Q E h => ?_) (fun cdv A outer s H vs Q E hr h => ?_)
  · obtain ⟨n, s, g, t, ts, rfl, _⟩ := h
    rfl
  · obtain ⟨n, si, gi, t, ts, rfl, hn, hsl, hgl, hT, hl, hF, hP, kS, kG, kN, kW⟩ := h
    refine ⟨_, (pss_cons (ps_expr (pe_call ccheck_house.ok hr (by rfl) ccheck_house.g ccheck_house.kp ccheck_house.b .nil (L2N.passes_call (L2N.takes_of rfl rfl rfl rfl) (fun _ _ _ _ h => h)) (pa_cons (pv 0) (pa_cons (pv 2) pa_nil))))
      (pss_cons (ps_expr (pe_call ccheck_house.ok hr (by rfl) ccheck_house.g ccheck_house.kp ccheck_house.b .nil (L2N.passes_call (L2N.takes_of rfl rfl rfl rfl) (fun _ _ _ _ h => h)) (pa_cons (pv 0) (pa_cons (pv 3) pa_nil))))
      (pss_cons (ps_set (i := 4) scLeast.nd rfl (.inl rfl) (pe_ix (r := rIxL K) ix_list (pe_call cfar.ok hr (by rfl) cfar.g cfar.kp cfar.b .nil pass0 (pa_cons (pv 0) (pa_cons (pv 1) (pa_cons (pv 3) pa_nil)))) (pv 2) (fun _ _ => rfl)))
      (pss_cons (ps_if (pt_cmpR op_isN (pv 4) pe_non (nomark _))
        (pss_one (L2N.ps_raise rfl (L2N.takes_of rfl rfl rfl rfl) (pmkN_oex TW.t.oex TW.t.iC TW.t.tI TW.ok hr TW.b .nil pass0 (by rfl) TW.t.g (pa_cons (pe_call creached.ok hr (by rfl) creached.g creached.kp creached.b .nil pass0 (pa_cons (pv 0) (pa_cons (pv 1) (pa_cons (pv 2) pa_nil)))) pa_nil))))
        pss_nil)
      (PSs.nox (pss_cons (ps_set (i := 5) scLeast.nd rfl (.inl rfl) (pe_call cnexts.ok hr (by rfl) cnexts.g cnexts.kp cnexts.b .nil pass0 (pa_cons (pv 0) (pa_cons (pv 1) (pa_cons (pv 3) pa_nil)))))
      (pss_cons (ps_set (i := 6) scLeast.nd rfl (.inl rfl) (pe_lst (pa_cons (pv 2) pa_nil)))
      (pss_cons (ps_while PassesOwn.never (pt_cmpR op_ne (pe_ix (r := rIxL K) ix_list (pv 6) (pe_un un_neg pe_int) (fun _ _ => rfl)) (pv 3) (nomark _))
        (pss_one (ps_expr (pe_bm PySem.F.plainAttrs_list PySem.F.slot_list_append PySem.F.type_list_append mt_append (pv 6) (pa_cons (pe_ix (r := rIxL K) ix_list (pv 5) (pe_ix (r := rIxL K) ix_list (pv 6) (pe_un un_neg pe_int) (fun _ _ => rfl)) (fun _ _ => rfl)) pa_nil)))))
      (pss_one (ps_ret (pe_tup (pa_cons (pv 4) (pa_cons (pe_callTy call_tuple_of (by rfl) T.tuple (by decide +kernel) (pa_cons (pv 6) pa_nil)) pa_nil))))))))))))), ?_⟩
    refine ⟨_, rfl, _, rfl, n, si, rfl, hsl, fun hs => ?_, fun hs => kS hs⟩
    refine ⟨_, rfl, _, rfl, n, gi, rfl, hgl, fun hg => ?_, fun hg => kG hs hg⟩
    obtain ⟨s', es⟩ : ∃ s' : Nat, si = (s' : Nat) := ⟨si.toNat, by omega⟩
    obtain ⟨g', eg⟩ : ∃ g' : Nat, gi = (g' : Nat) := ⟨gi.toNat, by omega⟩
    subst es
    subst eg
    have hs' : s' < n := by omega
    have hg' : g' < n := by omega
    have hI := farD_is hF hg'
    have hd := hI.len
    refine ⟨_, rfl, _, rfl, _, rfl, n, g', t, ts, rfl, hg', by omega, hT, hF, fun p H1 np s1 hp => ?_⟩
    have ha := atI_nat (at_of (d := farD n ts g') (v := s') (by omega))
    refine ⟨_, rfl, p, _, _, _, rfl, rfl, SqL.of hp, ha, ?_⟩
    refine ⟨_, rfl, rfl, _, rfl, ?_⟩
    cases ep : at? (farD n ts g') s' with
    | none =>
      refine iteT ?_
      have kN := kN s' g' rfl rfl hs' hg' ep
      refine ⟨_, rfl, _, rfl, _, rfl, n, s', t, ts, rfl, hs', by omega, hT.same s1, hF, fun l H2 nl s2 hl2 => ?_⟩
      refine ⟨(by show 1 ≤ 1000; decide), fun a na => ?_⟩
      have hla : l ≠ a := ne_of_none hl2 na
      have hll := lot_len n (farD n ts s')
      refine ⟨a, CW, _, rfl, ⟨l, (lotOf n (farD n ts s')).map (fun (h : Nat) => (h : Int)), rfl, ?_, by rw [List.length_map]; omega, fun z hz => ?_⟩, TW.t.oex, TW.t.word, hfld, upd_same, fun dx v' H3 nd ne k3 ha3 hd3 hv => ⟨rfl, dx, _, ha3, hd3, ?_, ?_⟩⟩
      · rw [upd_ne hla, hl2, List.map_map]
        rfl
      · obtain ⟨h, hm, rfl⟩ := List.mem_map.mp hz
        have : h < n := by
          unfold lotOf at hm
          exact List.mem_range.mp (List.mem_filter.mp hm).1
        omega
      · rw [upd_ne ne] at nd
        exact nd
      · obtain ⟨l1, l2, xs, e1, e2, hx1, hx2, hne, hnew⟩ := hv
        cases e1
        subst e2
        have nd2 : H2 dx = none := by rw [upd_ne ne] at nd; exact nd
        have sm : Same H (upd (del H3 a) dx (.xd [("lot", .ref l2), ("word", .str "noway")])) := (s1.trans s2).trans (raised_same na (fun b o e hb => k3 b o (by rw [upd_ne hb]; exact e) hb) nd2)
        have hl3 : H3 l = some (.lst ((lotOf n (farD n ts s')).map fun h => V.int (h : Nat))) := k3 l _ (by rw [upd_ne hla]; exact hl2) hla
        rw [hx1] at hl3
        injection hl3 with hl3
        injection hl3 with hl3
        have h2a : l2 ≠ a := ext_ne_lst ha3 hx2
        have h2d : l2 ≠ dx := fun z => by
          subst z
          rw [hd3] at hx2
          cases hx2
        refine kN dx l2 _ ((s1.trans s2).free nd2) ?_ sm upd_same ?_
        · rw [upd_ne h2a] at hnew
          exact (s1.trans s2).free hnew
        · rw [upd_ne h2d, del_ne h2a, hx2, hl3]
    | some c =>
      refine iteF ?_
      rw [ep] at ha
      have hbE : ∀ e ∈ both ts, e.1 < n := fun e m => (both_lt hF e m).1
      have hbP : ∀ a b c, (a, b, c) ∈ both ts → 1 ≤ c ∧ c ≤ 9 := fun a b c m => by rcases (both_mem ts _).mp m with z | z <;> exact hP _ z
      have hc9 := Sw.far_small hI hbE (fun e m => (hbP e.1 e.2.1 e.2.2 m).2) ep
      have hc100 : c ≤ 81 := by omega
      refine ⟨_, rfl, _, rfl, _, rfl, n, g', t, ts, rfl, hg', by omega, hT.same s1, hl, hF, fun o H2 no s2 hN => ?_⟩
      obtain ⟨xs, ho, hxl, hx⟩ := hN
      have kW := fun way hw hl => kW s' g' c way rfl rfl hs' hg' ep hw hl
      generalize farD n ts g' = d at hI hd hx kW ep
      refine ⟨_, rfl, (by show 1 ≤ sizeLine; decide), fun wa nw => ?_⟩
      have s3 := same_upd (o := .lst [.int (s' : Nat)]) nw
      refine ⟨fun m σ H' => ∃ (pre : List Nat) (x : Nat), σ = [some (.int (n : Nat)), some (.ref t), some (.int (s' : Nat)), some (.int (g' : Nat)), some (.int (c : Nat)), some (.ref o), some (.ref wa)] ∧ Same H2 H' ∧ H' wa = some (.lst ((pre ++ [x]).map fun h => V.int (h : Nat))) ∧ x < n ∧ at? d x = some m ∧ pre.length + m ≤ c ∧ ∀ l, WayTo (both ts) d g' x l → WayTo (both ts) d g' s' (pre ++ l),
        ⟨c, [], s', rfl, s3, upd_same, hs', ep, by simp, fun l z => z⟩, ?_⟩
      rintro m σ H3 ⟨pre, x, rfl, s4, hw, hxn, hxm, hlen, hway⟩
      have hlast : atI ((pre ++ [x]).map fun h => V.int (h : Nat)) (-1) = some (.int (x : Nat)) := by
        rw [List.map_append]
        exact atI_last _ _
      refine ⟨_, rfl, 1, rfl, wa, _, _, _, rfl, rfl, SqL.of hw, hlast, _, rfl, rfl, _, rfl, ?_⟩
      by_cases hxg : x = g'
      · subst hxg
        refine iteNS rfl ?_
        refine ⟨_, rfl, _, rfl, wa, _, rfl, .inl ⟨SqL.of hw, fun tw ntw => ⟨(by show 2 ≤ sizeLine; decide), fun pr npr => ?_⟩⟩⟩
        have s5 := same_upd (o := .tup ((pre ++ [x]).map fun h => V.int (h : Nat))) ntw
        have s6 := same_upd (o := .tup [.int (c : Nat), .ref tw]) npr
        have sall : Same H (upd (upd H3 tw (.tup ((pre ++ [x]).map fun h => V.int (h : Nat)))) pr (.tup [.int (c : Nat), .ref tw])) := s1.trans (s2.trans (s4.trans (s5.trans s6)))
        refine kW (pre ++ [x]) (hway [x] .here) (by rw [List.length_append]; show pre.length + 1 ≤ 100; omega) pr _ ((s1.trans (s2.trans s4)).free (s5.free npr)) sall ⟨tw, upd_same, ?_⟩
        exact s6 _ _ upd_same
      · have hne : ¬ V.int (x : Nat) = V.int (g' : Nat) := fun z => hxg (by injection z with z; have : (x : Int) = (g' : Int) := z; omega)
        rw [decide_eq_false hne]
        refine iteT ?_
        have hnx := hx x hxn
        obtain ⟨u, hu⟩ : ∃ u, at? xs x = some u := by
          cases e : at? xs x with
          | none =>
            rw [e] at hnx
            rcases hnx with z | z
            · exact absurd z hxg
            · rw [hxm] at z; cases z
          | some u => exact ⟨u, rfl⟩
        rw [hu] at hnx
        obtain ⟨c', y, hm1, hy, hz⟩ := id hnx.2.2.1
        rw [hxm] at hz
        injection hz with hz
        have hc1 := hbP _ _ _ hm1
        have hun : u < n := (both_lt hF _ hm1).2
        have hao := atI_nat (at_of (d := xs) (v := x) (by omega))
        rw [hu] at hao
        refine ⟨fun σ' H' => ∃ m', m' < m ∧ ∃ (pre : List Nat) (x : Nat), σ' = [some (.int (n : Nat)), some (.ref t), some (.int (s' : Nat)), some (.int (g' : Nat)), some (.int (c : Nat)), some (.ref o), some (.ref wa)] ∧ Same H2 H' ∧ H' wa = some (.lst ((pre ++ [x]).map fun h => V.int (h : Nat))) ∧ x < n ∧ at? d x = some m' ∧ pre.length + m' ≤ c ∧ ∀ l, WayTo (both ts) d g' x l → WayTo (both ts) d g' s' (pre ++ l), fun σ' H' z => z, ?_⟩
        refine ⟨_, rfl, .inl ⟨rfl, _, SqL.of hw⟩, _, rfl, _, rfl, 1, rfl, wa, _, _, _, rfl, rfl, SqL.of hw, hlast, o, _, _, _, rfl, rfl, SqL.of (s4 _ _ ho), hao, wa, _, _, rfl, rfl, hw, ?_, ?_⟩
        · rw [List.length_map, List.length_append]
          exact small1000 (by show pre.length + 1 ≤ 1000; omega)
        · refine ⟨y, by omega, pre ++ [x], u, rfl, fun b oo q => ?_, ?_, hun, hy, ?_, fun l hl => ?_⟩
          · rw [upd_ne (ne_of_none q nw)]
            exact s4 _ _ q
          · rw [upd_same, List.map_append (l₁ := pre ++ [x])]
            rfl
          · rw [List.length_append]
            show pre.length + 1 + y ≤ c
            omega
          · rw [List.append_assoc]
            exact hway _ (.step hnx hl)
end
end K

namespace K
open PySem PySem.Spec PyProof.Rows L2
open Sw (T3 Dist at? relax roundOf rounds IsNext Cand IsFar nbr candL WayTo lotOf)
abbrev sLLot : Stmt := top 26
abbrev sLLeast : Stmt := top 27
def spReach' : Sp := fun vs H Q _ => ∃ (n g : Nat) (t : Addr) (ts : List T3), vs = [.int (n : Nat), .ref t, .int (g : Nat)] ∧ g < n ∧ n ≤ 1000 ∧ TiesAt H t ts ∧ ts.length ≤ 400 ∧ Fits n ts ∧ ∀ p H', H p = none → Same H H' → H' p = some (.lst ((lotOf n (farD n ts g)).map fun h => V.int (h : Nat))) → Q (.ref p) H'
def spLLeast : Sp := fun vs H Q _ => ∃ (n s g : Nat) (t : Addr) (ts : List T3), vs = [.int (n : Nat), .ref t, .int (s : Nat), .int (g : Nat)] ∧ n ≤ 9 ∧ s < n ∧ g < n ∧ TiesAt H t ts ∧ ts.length ≤ 400 ∧ Good n ts ∧
  (at? (farD n ts g) s = none → ∀ H', Same H H' → Q .non H') ∧ (∀ (c : Nat) (way : List Nat), at? (farD n ts g) s = some c → WayTo (both ts) (farD n ts g) g s way → way.length ≤ 100 → ∀ p H', H p = none → Same H H' → PriceWay H' p c way → Q (.ref p) H')
section
variable {P : Program} {w : World} {K : PySem.W.Frag} {mg : Str → Option Value} {base : Heap}
theorem scLLot : FnScope ["_law_many", "_law_ties", "_law_start", "_law_house", "_law_span"] ["_law_many", "_law_ties", "_law_start"] (defScope sLLot) := ⟨rfl, rfl, rfl, by decide +kernel, rfl, by decide +kernel, by decide +kernel⟩
theorem ok_llot {f fF : Addr} {fd fdF : FuncData} {k : Nat} (F : Fun K "_law_lot" "_law_lot" sLLot f fd) (T : BT mg) (c_law_far : Cal P w K mg base (k + 1) "_law_far" fF fdF ["_law_many", "_law_ties", "_law_goal"] spLFar) : FnOk P w K mg base CX0 (k + 2) f fd ["_law_many", "_law_ties", "_law_start"] spReach' := by
  refine F.ok scLLot (fun vs H Q E h => ?_) (fun cdv A outer s H vs Q E hr h => ?_)
  · obtain ⟨n, g, t, ts, rfl, _⟩ := h
    rfl
  · obtain ⟨n, g, t, ts, rfl, hg, hn, hT, hl, hF, kk⟩ := h
    refine ⟨_, (pss_one (ps_ret (pe_lc (own := [("_law_house", 3), ("_law_span", 4)]) (g := (gTup K 2 (gCons (gName 3) (gCons (gName 4) gNil)))) rfl scLLot.nd (by exact (pi_enum (by rfl) T.enumerate (pa_cons (pe_call c_law_far.ok hr (by rfl) c_law_far.g c_law_far.kp c_law_far.b .nil pass0 (pa_cons (pv 0) (pa_cons (pv 1) (pa_cons (pv 2) pa_nil)))) pa_nil))) (blkOk_by (own := [("_law_house", 3), ("_law_span", 4)]) (N := ["_law_many", "_law_ties", "_law_start", "_law_house", "_law_span"]) (sc := (defScope sLLot)) (by decide +kernel)) (fun _ _ _ _ _ => by exact (pg_tup rfl (pgs_cons (pg_name (i := 3) scLLot.nd rfl (Or.inl rfl)) (pgs_cons (pg_name (i := 4) scLLot.nd rfl (Or.inl rfl)) pgs_nil)))) (fun _ _ _ _ _ => by exact (pts_one (pt_cmpR op_notN (pv 4) pe_non (nomark _)))) (fun _ _ _ _ _ => by exact (pv 3))))), ?_⟩
    refine ⟨_, rfl, _, rfl, _, rfl, n, g, t, ts, rfl, hg, hn, hT, hl, hF, fun p H1 np s1 hp => ?_⟩
    rw [far_lfar hF hg] at hp
    have hd := (farD_is hF hg).len
    generalize farD n ts g = d at hd hp kk
    refine ⟨p, d.map ov, rfl, SqL.of hp, fun D nD => ?_⟩
    refine lc_it (walk_enum (xs := d.map ov)) (fun i H' => Same H1 H' ∧ H' D = some (.lst ((lotOf i d).map fun h => V.int (h : Nat)))) ⟨same_upd nD, upd_same⟩ (fun i H' _ ⟨s2, _⟩ => SqL.of (s2 _ _ hp)) ?_ ?_
    · rintro i x H2 H3 hi ⟨s2, hD⟩ ⟨TT, x1, x2, rfl, nT, rfl, f1, f2⟩
      rw [List.length_map] at hi
      cases f1
      have f2 : (d.map ov)[i]? = some x2 := f2
      rw [at_of hi] at f2
      cases f2
      have s3 := same_upd (o := .tup [.int (i : Nat), ov (at? d i)]) nT
      refine ⟨TT, _, rfl, SqT.of upd_same, rfl, _, _, rfl, _, _, rfl, rfl, rfl, ?_⟩
      refine ⟨_, rfl, rfl, _, rfl, ?_⟩
      have step := lot_succ i d
      cases ei : at? d i with
      | none =>
        refine iteF ?_
        rw [ei] at step
        have step : lotOf (i + 1) d = lotOf i d := by rw [step]; simp
        rw [ei] at s3
        exact ⟨s2.trans s3, by rw [step]; exact s3 _ _ hD⟩
      | some c =>
        refine iteT ?_
        rw [ei] at step s3
        have step : lotOf (i + 1) d = lotOf i d ++ [i] := by rw [step]; simp
        have hl := lot_len i d
        refine ⟨_, rfl, _, s3 _ _ hD, by rw [List.length_map]; exact small1000 (by omega), fun b o q => ?_, ?_⟩
        · rw [upd_ne (ne_of_none q nD)]
          exact s3 _ _ (s2 _ _ q)
        · rw [upd_same, step, List.map_append]
          rfl
    · rintro H2 ⟨s2, hD⟩
      rw [List.length_map, hd] at hD
      exact kk D H2 (s1.free nD) (s1.trans s2) hD
theorem scLLeast : FnScope ["_law_many", "_law_ties", "_law_start", "_law_goal", "_law_spans", "_law_way", "_law_turn"] ["_law_many", "_law_ties", "_law_start", "_law_goal"] (defScope sLLeast) := ⟨rfl, rfl, rfl, by decide +kernel, rfl, by decide +kernel, by decide +kernel⟩
theorem ok_lleast {f fF fN : Addr} {fd fdF fdN : FuncData} {k : Nat} (F : Fun K "_law_least" "_law_least" sLLeast f fd) (T : BT mg) (c_law_far : Cal P w K mg base (k + 2) "_law_far" fF fdF ["_law_many", "_law_ties", "_law_goal"] spLFar) (c_law_next : Cal P w K mg base (k + 2) "_law_next" fN fdN ["_law_many", "_law_ties", "_law_house", "_law_goal"] spLNext) :
    FnOk P w K mg base CX0 (k + 3) f fd ["_law_many", "_law_ties", "_law_start", "_law_goal"] spLLeast := by
  refine F.ok scLLeast (fun vs H Q E h => ?_) (fun cdv A outer s H vs Q E hr h => ?_)
  · obtain ⟨n, s, g, t, ts, rfl, _⟩ := h
    rfl
  · obtain ⟨n, s', g', t, ts, rfl, hn, hs', hg', hT, hl, hG, kN, kW⟩ := h
    refine ⟨_, (pss_cons (ps_set (i := 4) scLLeast.nd rfl (.inl rfl) (pe_call c_law_far.ok hr (by rfl) c_law_far.g c_law_far.kp c_law_far.b .nil pass0 (pa_cons (pv 0) (pa_cons (pv 1) (pa_cons (pv 3) pa_nil)))))
      (pss_cons (ps_if (pt_cmpR op_isN (pe_ix (r := rIxL K) ix_list (pv 4) (pv 2) (fun _ _ => rfl)) pe_non (nomark _))
        (pss_one (ps_ret pe_non))
        pss_nil)
      (pss_cons (ps_set (i := 5) scLLeast.nd rfl (.inl rfl) (pe_lst (pa_cons (pv 2) pa_nil)))
      (pss_cons (ps_for PassesOwn.never rfl (pi_range1 (by rfl) T.range (pa_cons (pv 0) pa_nil)) (pg_name (i := 6) scLLeast.nd rfl (Or.inl rfl))
        (pss_one (ps_if (pt_cmpR op_ne (pe_ix (r := rIxL K) ix_list (pv 5) (pe_un un_neg pe_int) (fun _ _ => rfl)) (pv 3) (nomark _))
          (pss_one (ps_expr (pe_bm PySem.F.plainAttrs_list PySem.F.slot_list_append PySem.F.type_list_append mt_append (pv 5) (pa_cons (pe_call c_law_next.ok hr (by rfl) c_law_next.g c_law_next.kp c_law_next.b .nil pass0 (pa_cons (pv 0) (pa_cons (pv 1) (pa_cons (pe_ix (r := rIxL K) ix_list (pv 5) (pe_un un_neg pe_int) (fun _ _ => rfl)) (pa_cons (pv 3) pa_nil))))) pa_nil))))
          pss_nil)))
      (pss_one (ps_ret (pe_tup (pa_cons (pe_ix (r := rIxL K) ix_list (pv 4) (pv 2) (fun _ _ => rfl)) (pa_cons (pe_callTy call_tuple_of (by rfl) T.tuple (by decide +kernel) (pa_cons (pv 5) pa_nil)) pa_nil))))))))), ?_⟩
    have hF := hG.fits
    have hI := farD_is hF hg'
    have hd := hI.len
    refine ⟨_, rfl, _, rfl, _, rfl, n, g', t, ts, rfl, hg', by omega, hT, hl, hF, fun p H1 np s1 hp => ?_⟩
    rw [far_lfar hF hg'] at hp
    have ha := atI_nat (at_of (d := farD n ts g') (v := s') (by omega))
    refine ⟨_, rfl, _, rfl, p, _, _, _, rfl, rfl, SqL.of hp, ha, rfl, _, rfl, ?_⟩
    cases ep : at? (farD n ts g') s' with
    | none => exact iteT (kN ep H1 s1)
    | some c =>
      refine iteF ?_
      rw [ep] at ha
      have hbP : ∀ a b c, (a, b, c) ∈ both ts → 1 ≤ c := fun a b c m => by rcases (both_mem ts _).mp m with z | z <;> exact (hG _ z).2.2.1
      have kW := fun way => kW c way ep
      refine ⟨_, rfl, (by show 1 ≤ sizeLine; decide), fun wa nw => ?_⟩
      have s3 := same_upd (o := .lst [.int (s' : Nat)]) nw
      refine ⟨_, rfl, n, rfl, by omega, by omega, for_range (n := n) (fun i σ H' => ∃ (pre : List Nat) (x m : Nat) (y6 : Option V), σ = [some (.int (n : Nat)), some (.ref t), some (.int (s' : Nat)), some (.int (g' : Nat)), some (.ref p), some (.ref wa), y6] ∧ Same H1 H' ∧ H' wa = some (.lst ((pre ++ [x]).map fun h => V.int (h : Nat))) ∧ x < n ∧ at? (farD n ts g') x = some m ∧
          (x = g' ∨ pre.length = i) ∧ pre.length ≤ n ∧ (∀ h ∈ pre, h < n ∧ ∃ z, at? (farD n ts g') h = some z ∧ m < z) ∧ pre.Nodup ∧ ∀ l, WayTo (both ts) (farD n ts g') g' x l → WayTo (both ts) (farD n ts g') g' s' (pre ++ l))
        ⟨[], s', c, none, rfl, s3, upd_same, hs', ep, .inr rfl, Nat.zero_le _, fun h m => (by cases m), List.nodup_nil, fun l z => z⟩ ?_ ?_⟩
      · rintro i σ H3 hi ⟨pre, x, m, y6, rfl, s4, hw, hxn, hxm, hxi, hpl, hall, hnd, hway⟩
        have hlast : atI ((pre ++ [x]).map fun h => V.int (h : Nat)) (-1) = some (.int (x : Nat)) := by
          rw [List.map_append]
          exact atI_last _ _
        refine ⟨_, rfl, 1, rfl, wa, _, _, _, rfl, rfl, SqL.of hw, hlast, _, rfl, rfl, _, rfl, ?_⟩
        by_cases hxg : x = g'
        · rw [hxg]
          refine iteNS rfl ?_
          exact ⟨pre, x, m, _, rfl, s4, hw, hxn, hxm, .inl hxg, hpl, hall, hnd, hway⟩
        · have hne : ¬ V.int (x : Nat) = V.int (g' : Nat) := fun z => hxg (by injection z with z; have : (x : Int) = (g' : Int) := z; omega)
          rw [decide_eq_false hne]
          refine iteT ?_
          have hxi : pre.length = i := by
            rcases hxi with z | z
            · exact absurd z hxg
            · exact z
          refine ⟨_, rfl, .inl ⟨rfl, _, SqL.of hw⟩, _, rfl, _, rfl, _, rfl, 1, rfl, wa, _, _, _, rfl, rfl, SqL.of hw, hlast, _, rfl, n, g', x, t, ts, rfl, hg', hxn, by omega, (hT.same s1).same s4, hl, hG, fun u H5 hu s5 => ?_⟩
          obtain ⟨v, rfl⟩ : ∃ v, u = some v := by
            cases u with
            | none =>
              rcases hu with z | z
              · exact absurd z hxg
              · rw [hxm] at z; cases z
            | some v => exact ⟨v, rfl⟩
          obtain ⟨c', y, hm1, hy, hz⟩ := id hu.2.2.1
          rw [hxm] at hz
          injection hz with hz
          have hc1 := hbP _ _ _ hm1
          have hun : v < n := (both_lt hF _ hm1).2
          have hw5 := s5 _ _ hw
          refine ⟨wa, _, _, rfl, rfl, hw5, ?_, ?_⟩
          · rw [List.length_map, List.length_append]
            exact small1000 (by show pre.length + 1 ≤ 1000; omega)
          · refine ⟨pre ++ [x], v, y, _, rfl, fun b o q => ?_, ?_, hun, hy, .inr (by rw [List.length_append, hxi]; rfl), by rw [List.length_append]; show pre.length + 1 ≤ n; omega, fun h hm => ?_, ?_, fun l hl => ?_⟩
            · rw [upd_ne (ne_of_none q nw)]
              exact s5 _ _ (s4 _ _ q)
            · rw [upd_same, List.map_append (l₁ := pre ++ [x])]
              rfl
            · rcases List.mem_append.mp hm with q | q
              · obtain ⟨h1, z, hz1, hz2⟩ := hall h q
                exact ⟨h1, z, hz1, by omega⟩
              · simp at q
                subst q
                exact ⟨hxn, m, hxm, by omega⟩
            · rw [List.nodup_append]
              refine ⟨hnd, by simp, fun a hma b hmb => ?_⟩
              simp at hmb
              subst hmb
              intro e
              subst e
              obtain ⟨_, z, hz1, hz2⟩ := hall _ hma
              rw [hxm] at hz1
              cases hz1
              omega
            · rw [List.append_assoc]
              exact hway _ (.step hu hl)
      · rintro σ H3 ⟨pre, x, m, y6, rfl, s4, hw, hxn, hxm, hxi, hpl, hall, hnd, hway⟩
        have hxg : x = g' := by
          rcases hxi with z | z
          · exact z
          · exfalso
            have hnd2 : (pre ++ [x]).Nodup := by
              rw [List.nodup_append]
              refine ⟨hnd, by simp, fun a hma b hmb => ?_⟩
              simp at hmb
              subst hmb
              intro e
              subst e
              obtain ⟨_, z, hz1, hz2⟩ := hall _ hma
              rw [hxm] at hz1
              cases hz1
              omega
            have := Sw.nodup_le n _ hnd2 (fun h hm => by
              rcases List.mem_append.mp hm with q | q
              · exact (hall h q).1
              · simp at q; subst q; exact hxn)
            rw [List.length_append] at this
            have : pre.length + 1 ≤ n := this
            omega
        subst hxg
        refine ⟨_, rfl, _, rfl, p, _, _, _, rfl, rfl, SqL.of (s4 _ _ hp), ha, _, rfl, wa, _, rfl, .inl ⟨SqL.of hw, fun tw ntw => ⟨(by show 2 ≤ sizeLine; decide), fun pr npr => ?_⟩⟩⟩
        have s5 := same_upd (o := .tup ((pre ++ [x]).map fun h => V.int (h : Nat))) ntw
        have s6 := same_upd (o := .tup [.int (c : Nat), .ref tw]) npr
        refine kW (pre ++ [x]) (hway [x] .here) (by rw [List.length_append]; show pre.length + 1 ≤ 100; omega) pr _ ((s1.trans s4).free (s5.free npr)) (s1.trans (s4.trans (s5.trans s6))) ⟨tw, upd_same, ?_⟩
        exact s6 _ _ upd_same
end
end K


namespace K
open PySem PySem.Spec PyProof.Rows L2
open Sw (T3 Dist at? relax roundOf rounds IsNext Cand IsFar nbr candL WayTo lotOf)
abbrev sWithout : Stmt := top 15
abbrev sRound : Stmt := top 16
abbrev sTried : Stmt := top 28
section
variable {P : Program} {w : World} {K : PySem.W.Frag} {mg : Str → Option Value} {base : Heap}
theorem scWithout : FnScope ["ties", "one", "other", "tie"] ["ties", "one", "other"] (defScope sWithout) := ⟨rfl, rfl, rfl, by decide +kernel, rfl, by decide +kernel, by decide +kernel⟩
theorem room65 {k : Nat} {A : Around} (r : Room k A) : A.units + 65 < cLine := by have := r.un; omega
theorem lft_one (e : T3) (u v : Nat) : lft [e] u v = if ((e.1 = u ∧ e.2.1 = v) ∨ (e.2.1 = u ∧ e.1 = v)) then [] else [e] := by
  obtain ⟨a, b, c⟩ := e
  unfold lft
  by_cases h : ((a = u ∧ b = v) ∨ (b = u ∧ a = v))
  · rw [if_pos h]
    rcases h with ⟨h1, h2⟩ | ⟨h1, h2⟩ <;> simp [h1, h2]
  · rw [if_neg h]
    have : (!((a == u && b == v) || (b == u && a == v))) = true := by
      simp only [Bool.not_eq_true', Bool.or_eq_false_iff, Bool.and_eq_false_iff, beq_eq_false_iff_ne]
      constructor
      · by_cases h1 : a = u
        · exact .inr fun h2 => h (.inl ⟨h1, h2⟩)
        · exact .inl h1
      · by_cases h1 : b = u
        · exact .inr fun h2 => h (.inr ⟨h1, h2⟩)
        · exact .inl h1
    exact List.filter_cons_of_pos this
theorem lft_snoc (ts : List T3) (e : T3) (u v : Nat) : lft (ts ++ [e]) u v = if ((e.1 = u ∧ e.2.1 = v) ∨ (e.2.1 = u ∧ e.1 = v)) then lft ts u v else lft ts u v ++ [e] := by
  have h1 := lft_one e u v
  have : lft (ts ++ [e]) u v = lft ts u v ++ lft [e] u v := by unfold lft; rw [List.filter_append]
  rw [this, h1]
  split
  · rw [List.append_nil]
  · rfl
theorem ok_without {f : Addr} {fd : FuncData} {k : Nat} (F : Fun K "without" "without" sWithout f fd) : FnOk P w K mg base CX0 (k + 1) f fd ["ties", "one", "other"] spWithout := by
  refine F.ok scWithout (fun vs H Q E h => ?_) (fun cdv A outer s H vs Q E hr h => ?_)
  · obtain ⟨u, v, t, ts, rfl, _⟩ := h
    rfl
  · obtain ⟨u, v, t, ts, rfl, hT, hl, kk⟩ := h
    refine ⟨_, (pss_one (ps_ret (pe_lc (own := [("tie", 3)]) (g := (gName 3)) rfl scWithout.nd (by exact (pi_list (pv 0))) (blkOk_by (own := [("tie", 3)]) (N := ["ties", "one", "other", "tie"]) (sc := (defScope sWithout)) (by decide +kernel)) (fun _ _ _ _ _ => by exact (pg_name (i := 3) scWithout.nd rfl (Or.inl rfl))) (fun _ _ _ _ _ => by exact (pts_one (PW.pt (pw_and (pt_cmpR (r := rNeD K) (op_neD hr.units) (pe_tup (pa_cons (pe_ix (r := rIxT K) ix_tup (pv 3) pe_int (fun _ _ => rfl)) (pa_cons (pe_ix (r := rIxT K) ix_tup (pv 3) pe_int (fun _ _ => rfl)) pa_nil))) (pe_tup (pa_cons (pv 1) (pa_cons (pv 2) pa_nil))) (nomark _)) (pw_and1 (pt_cmpR (r := rNeD K) (op_neD hr.units) (pe_tup (pa_cons (pe_ix (r := rIxT K) ix_tup (pv 3) pe_int (fun _ _ => rfl)) (pa_cons (pe_ix (r := rIxT K) ix_tup (pv 3) pe_int (fun _ _ => rfl)) pa_nil))) (pe_tup (pa_cons (pv 1) (pa_cons (pv 2) pa_nil))) (nomark _))))))) (fun _ _ _ _ _ => by exact (pv 3))))), ?_⟩
    obtain ⟨as, ht, hp⟩ := id hT
    have hal := paired_len hp
    refine ⟨_, rfl, t, rfl, ⟨_, SqL.of ht⟩, fun D nD => ?_⟩
    refine lc_list (K := K) (a := t) (xs := as.map V.ref) (fun i H' => Same H H' ∧ ∃ bs : List Addr, H' D = some (.lst (bs.map V.ref)) ∧ Paired (fun a e => H a = some (.tup (tv e))) bs (lft (ts.take i) u v) ∧ bs.length ≤ i) ⟨same_upd nD, [], upd_same, by rw [List.take_zero]; exact .nil, Nat.le_refl _⟩ (fun i H' _ z => SqL.of (z.1 _ _ ht)) ?_ ?_
    · rintro i x H2 hx ⟨s2, bs, hD, hB, hbl⟩
      rw [List.getElem?_map] at hx
      obtain ⟨a, ha, rfl⟩ := Option.map_eq_some_iff.mp hx
      obtain ⟨e, he, hat⟩ := paired_at hp i a ha
      have hi : i < ts.length := (List.getElem?_eq_some_iff.mp he).1
      have step : lft (ts.take (i + 1)) u v = if ((e.1 = u ∧ e.2.1 = v) ∨ (e.2.1 = u ∧ e.1 = v)) then lft (ts.take i) u v else lft (ts.take i) u v ++ [e] := by
        rw [List.take_succ, he]
        exact lft_snoc _ _ _ _
      have hat2 := s2 _ _ hat
      refine ⟨rfl, ?_⟩
      refine ⟨_, rfl, a, _, 0, _, rfl, rfl, SqT.of hat2, rfl, _, rfl, a, _, 1, _, rfl, rfl, SqT.of hat2, rfl, (by show 2 ≤ sizeLine; decide), fun p1 np1 => ?_⟩
      have u1 := same_upd (o := .tup [.int (e.1 : Nat), .int (e.2.1 : Nat)]) np1
      refine ⟨_, rfl, _, rfl, (by show 2 ≤ sizeLine; decide), fun p2 np2 => ?_⟩
      have u2 := same_upd (o := .tup [.int (u : Nat), .int (v : Nat)]) np2
      refine ⟨pairD e.1 e.2.1, pairD u v, dp_pair (u2 _ _ upd_same), dp_pair upd_same, pair_shaped _ _, pair_shaped _ _, _, rfl, ?_⟩
      rw [pair_eqv]
      have sA : Same H2 _ := u1.trans u2
      have stay : ∀ {Hx : Hp}, Same H2 Hx → ((e.1 = u ∧ e.2.1 = v) ∨ (e.2.1 = u ∧ e.1 = v)) → Same H Hx ∧ ∃ bs : List Addr, Hx D = some (.lst (bs.map V.ref)) ∧ Paired (fun a e => H a = some (.tup (tv e))) bs (lft (ts.take (i + 1)) u v) ∧ bs.length ≤ i + 1 := fun {Hx} sx h => ⟨s2.trans sx, bs, sx _ _ hD, by rw [step, if_pos h]; exact hB, by omega⟩
      by_cases h1 : ((e.1 : Int) = u ∧ (e.2.1 : Int) = v)
      · rw [decide_eq_true h1]
        exact stay sA (.inl ⟨by omega, by omega⟩)
      · rw [decide_eq_false h1]
        refine ⟨_, rfl, a, _, 1, _, rfl, rfl, SqT.of (sA _ _ hat2), rfl, _, rfl, a, _, 0, _, rfl, rfl, SqT.of (sA _ _ hat2), rfl, (by show 2 ≤ sizeLine; decide), fun p3 np3 => ?_⟩
        have u3 := same_upd (o := .tup [.int (e.2.1 : Nat), .int (e.1 : Nat)]) np3
        refine ⟨_, rfl, _, rfl, (by show 2 ≤ sizeLine; decide), fun p4 np4 => ?_⟩
        have u4 := same_upd (o := .tup [.int (u : Nat), .int (v : Nat)]) np4
        refine ⟨pairD e.2.1 e.1, pairD u v, dp_pair (u4 _ _ upd_same), dp_pair upd_same, pair_shaped _ _, pair_shaped _ _, _, rfl, ?_⟩
        rw [pair_eqv]
        have sB : Same H2 _ := sA.trans (u3.trans u4)
        by_cases h2 : ((e.2.1 : Int) = u ∧ (e.1 : Int) = v)
        · rw [decide_eq_true h2]
          exact stay sB (.inr ⟨by omega, by omega⟩)
        · rw [decide_eq_false h2]
          refine ⟨_, rfl, _, sB _ _ hD, by rw [List.length_map]; exact small1000 (by omega), ?_, bs ++ [a], ?_, ?_, by rw [List.length_append]; show bs.length + 1 ≤ i + 1; omega⟩
          · exact fun b o q => by
              rw [upd_ne (ne_of_none q nD)]
              exact sB _ _ (s2 _ _ q)
          · rw [upd_same, List.map_append]
            rfl
          · rw [step, if_neg (by omega)]
            exact paired_append hB (.cons hat .nil)
    · rintro H2 ⟨s2, bs, hD, hB, hbl⟩
      rw [List.length_map, hal, List.take_length] at hB
      exact kk D H2 nD s2 ⟨bs, hD, paired_mono (fun a e q => s2 _ _ q) hB⟩
end
end K

namespace K
open PySem PySem.Spec PyProof.Rows L2
open Sw (T3 Dist at? relax roundOf rounds IsNext Cand IsFar nbr candL WayTo lotOf)
section
variable {P : Program} {w : World} {K : PySem.W.Frag} {mg : Str → Option Value} {base : Heap}
theorem scRound : FnScope ["many", "ties", "one", "other", "gone"] ["many", "ties", "one", "other"] (defScope sRound) := ⟨rfl, rfl, rfl, by decide +kernel, rfl, by decide +kernel, by decide +kernel⟩
theorem ok_round {f CH CT CW CL fC fL fW fIT fIW fIL : Addr} {fd fdC fdL fdW fdIT fdIL : FuncData} {k : Nat} (F : Fun K "round_way" "round_way" sRound f fd) (ccheck_house : CalX P w K mg base (k + 6) "check_house" fC fdC ["many", "house"] (spCheckX CH))
    (cleast_way : CalN P w K mg base (k + 6) "least_way" fL fdL ["many", "ties", "start", "goal"] (spLeastX CH CW)) (cwithout : Cal P w K mg base (k + 6) "without" fW fdW ["ties", "one", "other"] spWithout) (TT : ExcC P w K mg base (k + 5) "NoTie" CT fIT fdIT ["self", "one", "other"] (spIn2 K "one" "other" "notie"))
    (TL : ExcH P w K mg base (k + 5) "Lone" CL fIL fdIL ["self", "lot"] (spIn1 K "lot" "lone" (askLot K) gotLot)) (TW : ExcT K mg "NoWay" CW fIW) (fTo : PySem.W.findIn K (.ref CT) "one" = some none) (fTt : PySem.W.findIn K (.ref CT) "other" = some none) (fW : PySem.W.findIn K (.ref CW) "lot" = some none) (fLl : PySem.W.findIn K (.ref CL) "lot" = some none) (eWW : PySem.W.exmOne K (.ref CW) (.ref CW) = some true) :
    FnOk P w K mg base (L2.CX P w) (k + 7) f fd ["many", "ties", "one", "other"] (spRoundX CH CT CL) := by
  refine F.okX scRound (fun vs H Q E h => ?_) (fun cdv A outer s H vs Q E hr h => ?_)
  · obtain ⟨n, s, g, t, ts, rfl, _⟩ := h
    rfl
  · obtain ⟨n, si, gi, t, ts, rfl, hn, hsl, hgl, hT, hl, hF, hP, kS, kG, kT, kN, kW⟩ := h
    refine ⟨_, pss_cons (ps_expr (pe_call ccheck_house.ok hr (by rfl) ccheck_house.g ccheck_house.kp ccheck_house.b .nil (passes_call (takes_of rfl rfl rfl rfl) (fun _ _ _ _ h => h)) (pa_cons (pv 0) (pa_cons (pv 2) pa_nil))))
      (pss_cons (ps_expr (pe_call ccheck_house.ok hr (by rfl) ccheck_house.g ccheck_house.kp ccheck_house.b .nil (passes_call (takes_of rfl rfl rfl rfl) (fun _ _ _ _ h => h)) (pa_cons (pv 0) (pa_cons (pv 3) pa_nil))))
      (pss_cons (ps_if (pt_cmpR op_eq (pv 2) (pv 3) (nomark _))
        (pss_one (ps_raise rfl (takes_of rfl rfl rfl rfl) (pmk_oex TT.t.oex TT.t.iC TT.t.tI TT.ok hr TT.b .nil pass0 (by rfl) TT.t.g (pa_cons (pv 2) (pa_cons (pv 3) pa_nil)))))
        pss_nil)
      (pss_one (L2H.ps_try_asX (i := 4) (tb := fun W => tRet (tCallS (spLeastX CH CW) (WE W) (tCons (tVar 0) (tCons (tCall spWithout [] E0 (tCons (tVar 1) (tCons (tVar 2) (tCons (tVar 3) tNil)))) (tCons (tVar 2) (tCons (tVar 3) tNil))))))
        (ts := fun a cls d => fun _ σ H => tMkO CL (spIn1 K "lot" "lone" (askLot K) gotLot) [] (tCons (tXf a cls d CW "lot" (tVar 4)) tNil) σ H fun cls d H' => E cls d H')
        (Wout := fun cls d _ H => E cls d H) rfl rfl scRound.nd rfl rfl ⟨rfl, by decide, Or.inl TW.g⟩ (takes_of rfl rfl rfl rfl)
        (fun W pn xe tk _ => pss_one (ps_ret (by exact (pe_callS cleast_way.ok hr rfl cleast_way.g cleast_way.kp cleast_way.b (fun σ => L2N.passAt tk σ) (by exact (pa_cons (pv 0) (pa_cons (pe_call cwithout.ok hr (by rfl) cwithout.g cwithout.kp cwithout.b .nil pass0 (pa_cons (pv 1) (pa_cons (pv 2) (pa_cons (pv 3) pa_nil)))) (pa_cons (pv 2) (pa_cons (pv 3) pa_nil)))))))))
        (fun a oe cls d pn xe hz hf tkS hot => pss_one (by exact (L2H.ps_raiseHN hot tkS (L2H.pmk5_oexH TL.t.oex TL.t.iC TL.t.tI TL.ok (L2H.roomH_mark hr _) hot TL.b pass0 (by rfl) TL.t.g (pa_cons (PE.nox (pe_xf TW.xf fW hz.zc hf (pv 4))) pa_nil))))))))), ?_⟩
    refine ⟨_, rfl, _, rfl, n, si, rfl, hsl, fun hs => ?_, fun hs => kS hs⟩
    refine ⟨_, rfl, _, rfl, n, gi, rfl, hgl, fun hg => ?_, fun hg => kG hs hg⟩
    obtain ⟨s', es⟩ : ∃ s' : Nat, si = (s' : Nat) := ⟨si.toNat, by omega⟩
    obtain ⟨g', eg⟩ : ∃ g' : Nat, gi = (g' : Nat) := ⟨gi.toNat, by omega⟩
    subst es
    subst eg
    have hs' : s' < n := by omega
    have hg' : g' < n := by omega
    refine ⟨_, rfl, _, rfl, rfl, _, rfl, ?_⟩
    by_cases hsg : s' = g'
    · subst hsg
      rw [decide_eq_true rfl]
      refine iteT ?_
      have kT := kT hs rfl
      refine ⟨_, rfl, _, rfl, (by show 2 ≤ 1000; decide), fun a na => ?_⟩
      refine ⟨a, CT, _, _, rfl, hsl, hsl, TT.t.oex, TT.t.word, fTo, fTt, upd_same, fun dx H2 nd ne k2 ha2 hd2 => ⟨rfl, dx, _, ha2, hd2, ?_, ?_⟩⟩
      · rw [upd_ne ne] at nd
        exact nd
      · have nd0 : H dx = none := by rw [upd_ne ne] at nd; exact nd
        exact kT dx _ nd0 (raised_same na (fun b o e hb => k2 b o (by rw [upd_ne hb]; exact e) hb) nd0) upd_same
    · have hne : ¬ V.int (s' : Nat) = V.int (g' : Nat) := fun z => hsg (by injection z with z; have : (s' : Int) = (g' : Int) := z; omega)
      rw [decide_eq_false hne]
      refine iteF ?_
      refine ⟨_, rfl, _, rfl, _, rfl, _, rfl, s', g', t, ts, rfl, hT, hl, fun p H1 np s1 hL => ?_⟩
      refine ⟨_, rfl, _, rfl, n, (s' : Nat), (g' : Nat), p, lft ts s' g', rfl, hn, hsl, hgl, hL, Nat.le_trans (lft_len _ _ _) hl, lft_fits hF, fun e m => hP e (lft_sub e m), fun z => absurd hs z, fun _ z => absurd hg z, fun s2 g2 es eg _ _ ep d l H2 nd nl s2' hd hl2 => ?_, fun s2 g2 c way es eg _ _ ep hw hwl p2 H2 np2 s2' hpw => ?_⟩
      · have es : s2 = s' := by omega
        have eg : g2 = g' := by omega
        subst es
        subst eg
        have kN := kN s2 g2 rfl rfl hs' hg' hsg ep
        refine ⟨true, eWW, fun _ a0 na0 => ?_, fun z => by cases z⟩
        refine ⟨_, rfl, rfl, rfl, d, _, _, rfl, hd, rfl, (by show 1 ≤ 1000; decide), fun a na => ?_⟩
        have hla : l ≠ a := ne_of_none hl2 na
        have hll := lot_len n (farD n (lft ts s2 g2) s2)
        refine ⟨a, CL, _, rfl, ⟨l, (lotOf n (farD n (lft ts s2 g2) s2)).map (fun (h : Nat) => (h : Int)), rfl, ?_, by rw [List.length_map]; omega, fun z hz => ?_⟩, TL.t.oex, TL.t.word, fLl, upd_same, fun dx v' H3 nd3 ne k3 ha3 hd3 hv => ⟨rfl, dx, _, ha3, hd3, ?_, ?_⟩⟩
        · rw [upd_ne hla, hl2, List.map_map]
          rfl
        · obtain ⟨h, hm, rfl⟩ := List.mem_map.mp hz
          have : h < n := by
            unfold lotOf at hm
            exact List.mem_range.mp (List.mem_filter.mp hm).1
          omega
        · rw [upd_ne ne] at nd3
          exact nd3
        · obtain ⟨l1, l2, xs, e1, e2, hx1, hx2, hne', hnew⟩ := hv
          cases e1
          subst e2
          have nd2 : H2 dx = none := by rw [upd_ne ne] at nd3; exact nd3
          have s12 : Same H H2 := s1.trans s2'
          have sm : Same H (upd (del H3 a) dx (.xd [("lot", .ref l2), ("word", .str "lone")])) := s12.trans (raised_same na (fun b o e hb => k3 b o (by rw [upd_ne hb]; exact e) hb) nd2)
          have hl3 : H3 l = some (.lst ((lotOf n (farD n (lft ts s2 g2) s2)).map fun h => V.int (h : Nat))) := k3 l _ (by rw [upd_ne hla]; exact hl2) hla
          rw [hx1] at hl3
          injection hl3 with hl3
          injection hl3 with hl3
          have h2a : l2 ≠ a := ext_ne_lst ha3 hx2
          have h2d : l2 ≠ dx := fun z => by
            subst z
            rw [hd3] at hx2
            cases hx2
          refine kN dx l2 _ (s12.free nd2) ?_ sm upd_same ?_
          · rw [upd_ne h2a] at hnew
            exact s12.free hnew
          · rw [upd_ne h2d, del_ne h2a, hx2, hl3]
      · have es : s2 = s' := by omega
        have eg : g2 = g' := by omega
        subst es
        subst eg
        exact kW s2 g2 c way rfl rfl hs' hg' hsg ep hw hwl p2 H2 (s1.free np2) (s1.trans s2') hpw
end
end K

namespace K
open PySem PySem.Spec PyProof.Rows L2
open Sw (T3 Dist at? relax roundOf rounds IsNext Cand IsFar nbr candL WayTo lotOf)
/-- ("notie", i, j) and so on, of round_way -/
def spTriedR : Sp := fun vs H Q _ => ∃ (n : Nat) (s g : Int) (t : Addr) (ts : List T3), vs = [.int (n : Nat), .ref t, .int s, .int g] ∧ n ≤ 9 ∧ s.natAbs.log2 < 1920 ∧ g.natAbs.log2 < 1920 ∧ TiesAt H t ts ∧ ts.length ≤ 400 ∧ Fits n ts ∧ (∀ e ∈ ts, 1 ≤ e.2.2 ∧ e.2.2 ≤ 9) ∧
  (¬ (0 ≤ s ∧ s < n) → ∀ p H', H p = none → Same H H' → H' p = some (.tup [.str "nohouse", .int s]) → Q (.ref p) H') ∧
  (0 ≤ s ∧ s < n → ¬ (0 ≤ g ∧ g < n) → ∀ p H', H p = none → Same H H' → H' p = some (.tup [.str "nohouse", .int g]) → Q (.ref p) H') ∧
  (0 ≤ s ∧ s < n → g = s → ∀ p H', H p = none → Same H H' → H' p = some (.tup [.str "notie", .int s, .int g]) → Q (.ref p) H') ∧
  (∀ s' g' : Nat, s = s' → g = g' → s' < n → g' < n → s' ≠ g' → at? (farD n (lft ts s' g') g') s' = none → ∀ p l H', H p = none → H l = none → Same H H' → H' p = some (.tup [.str "lone", .ref l]) → H' l = some (.lst ((lotOf n (farD n (lft ts s' g') s')).map fun h => V.int (h : Nat))) → Q (.ref p) H') ∧
  (∀ (s' g' c : Nat) (way : List Nat), s = s' → g = g' → s' < n → g' < n → s' ≠ g' → at? (farD n (lft ts s' g') g') s' = some c → WayTo (both (lft ts s' g')) (farD n (lft ts s' g') g') g' s' way → way.length ≤ 100 → ∀ p H', H p = none → Same H H' → PriceWay H' p c way → Q (.ref p) H')
section
variable {P : Program} {w : World} {K : PySem.W.Frag} {mg : Str → Option Value} {base : Heap}
theorem scTried : FnScope ["_law_many", "_law_ties", "_law_one", "_law_other", "_law_found", "e"] ["_law_many", "_law_ties", "_law_one", "_law_other"] (defScope sTried) := ⟨rfl, rfl, rfl, by decide +kernel, rfl, by decide +kernel, by decide +kernel⟩
theorem ok_triedR {f CH CT CL fR fIH fIT fIL : Addr} {fd fdR : FuncData} {k : Nat} (F : Fun K "_law_tried" "_law_tried" sTried f fd) (cround_way : CalX P w K mg base (k + 1) "round_way" fR fdR ["many", "ties", "one", "other"] (spRoundX CH CT CL)) (TH : ExcT K mg "NoHouse" CH fIH) (TT : ExcT K mg "NoTie" CT fIT) (TL : ExcT K mg "Lone" CL fIL)
    (fH : PySem.W.findIn K (.ref CH) "house" = some none) (fTo : PySem.W.findIn K (.ref CT) "one" = some none) (fTt : PySem.W.findIn K (.ref CT) "other" = some none) (fL : PySem.W.findIn K (.ref CL) "lot" = some none)
    (eHH : PySem.W.exmOne K (.ref CH) (.ref CH) = some true) (eTH : PySem.W.exmOne K (.ref CT) (.ref CH) = some false) (eTT : PySem.W.exmOne K (.ref CT) (.ref CT) = some true) (eLH : PySem.W.exmOne K (.ref CL) (.ref CH) = some false) (eLT : PySem.W.exmOne K (.ref CL) (.ref CT) = some false) (eLL : PySem.W.exmOne K (.ref CL) (.ref CL) = some true) :
    FnOk P w K mg base CX0 (k + 2) f fd ["_law_many", "_law_ties", "_law_one", "_law_other"] spTriedR := by
  refine F.ok scTried (fun vs H Q E h => ?_) (fun cdv A outer s H vs Q E hr h => ?_)
  · obtain ⟨n, s, g, t, ts, rfl, _⟩ := h
    rfl
  · obtain ⟨n, si, gi, t, ts, rfl, hn, hsl, hgl, hT, hl, hF, hP, kS, kG, kT, kN, kW⟩ := h
    refine ⟨_, pss_cons (ps_set (i := 4) scTried.nd rfl (.inl rfl) pe_non)
      (pss_cons (ps_try_mix (tb := fun W => tAsg (tCallS (spRoundX CH CT CL) (WE W) (tCons (tVar 0) (tCons (tVar 1) (tCons (tVar 2) (tCons (tVar 3) tNil))))) (gName 4)) (Wout := fun _ _ _ _ => False) rfl rfl takes0
        (fun W pn xe tk _ => pss_one (ps_set (i := 4) scTried.nd rfl (Or.inl rfl) (by exact (pe_callS cround_way.ok hr rfl cround_way.g cround_way.kp cround_way.b (fun σ => passAt tk σ) (by exact (pa_cons (pv 0) (pa_cons (pv 1) (pa_cons (pv 2) (pa_cons (pv 3) pa_nil)))))))))
        (MixOk.as (i := 5) (c := .ref CH) (ts := (fun a cls d => tRet (tTup (tCons (tC (.str "nohouse")) (tCons (tXf a cls d CH "house" (tVar 5)) tNil))))) scTried.nd rfl rfl ⟨rfl, by decide, Or.inl TH.g⟩ (fun a oe cls d pn hz hf => pss_one (ps_ret (pe_tup (pa_cons pe_str (pa_cons (pe_xf TH.xf fH hz hf (pv 5)) pa_nil)))))
          (MixOk.as (i := 5) (c := .ref CT) (ts := (fun a cls d => tRet (tTup (tCons (tC (.str "notie")) (tCons (tXf a cls d CT "one" (tVar 5)) (tCons (tXf a cls d CT "other" (tVar 5)) tNil)))))) scTried.nd rfl rfl ⟨rfl, by decide, Or.inl TT.g⟩ (fun a oe cls d pn hz hf => pss_one (ps_ret (pe_tup (pa_cons pe_str (pa_cons (pe_xf TT.xf fTo hz hf (pv 5)) (pa_cons (pe_xf TT.xf fTt hz hf (pv 5)) pa_nil))))))
            (MixOk.as (i := 5) (c := .ref CL) (ts := (fun a cls d => tRet (tTup (tCons (tC (.str "lone")) (tCons (tXf a cls d CL "lot" (tVar 5)) tNil))))) scTried.nd rfl rfl ⟨rfl, by decide, Or.inl TL.g⟩ (fun a oe cls d pn hz hf => pss_one (ps_ret (pe_tup (pa_cons pe_str (pa_cons (pe_xf TL.xf fL hz hf (pv 5)) pa_nil))))) .nil))))
      (pss_one (ps_ret (pv 4)))), ?_⟩
    have house : ∀ h : Int, (∀ p H', H p = none → Same H H' → H' p = some (.tup [.str "nohouse", .int h]) → Q (.ref p) H') → ∀ (D : Ends), D.rt = Q → HouseX CH h H (WE (wMix K (fun _ _ _ _ => False) D [⟨.ref CH, some 5, (fun a cls d => tRet (tTup (tCons (tC (.str "nohouse")) (tCons (tXf a cls d CH "house" (tVar 5)) tNil))))⟩, ⟨.ref CT, some 5, (fun a cls d => tRet (tTup (tCons (tC (.str "notie")) (tCons (tXf a cls d CT "one" (tVar 5)) (tCons (tXf a cls d CT "other" (tVar 5)) tNil)))))⟩, ⟨.ref CL, some 5, (fun a cls d => tRet (tTup (tCons (tC (.str "lone")) (tCons (tXf a cls d CL "lot" (tVar 5)) tNil))))⟩]) [some (.int (n : Nat)), some (.ref t), some (.int si), some (.int gi), some .non, none]) := by
      intro h kk D hD d H' nd sm hd
      refine ⟨true, eHH, fun _ a na => ?_, fun z => by cases z⟩
      refine ⟨_, rfl, rfl, rfl, d, _, _, rfl, hd, rfl, (by show 2 ≤ sizeLine; decide), fun p np => ?_⟩
      show D.rt _ _
      rw [hD]
      exact kk p _ (sm.free np) (sm.trans (same_upd np)) upd_same
    refine ⟨_, rfl, _, rfl, _, rfl, _, rfl, n, si, gi, t, ts, rfl, hn, hsl, hgl, hT, hl, hF, hP, fun hs => house si (kS hs) _ rfl, fun hs hg => house gi (kG hs hg) _ rfl, fun hs hg d H' nd sm hd => ?_, fun s' g' es eg hs hg hne ep d l H' nd nl sm hd hl' => ?_, fun s' g' c way es eg hs hg hne ep hw hwl p H' np sm hpw => ?_⟩
    · refine ⟨false, eTH, fun z => (by cases z), fun _ => ⟨true, eTT, fun _ a na => ?_, fun z => by cases z⟩⟩
      refine ⟨_, rfl, rfl, rfl, d, _, _, rfl, hd, rfl, _, rfl, rfl, rfl, d, _, _, rfl, hd, rfl, (by show 3 ≤ sizeLine; decide), fun p np => ?_⟩
      exact kT hs hg p _ (sm.free np) (sm.trans (same_upd np)) upd_same
    · refine ⟨false, eLH, fun z => (by cases z), fun _ => ⟨false, eLT, fun z => (by cases z), fun _ => ⟨true, eLL, fun _ a na => ?_, fun z => by cases z⟩⟩⟩
      refine ⟨_, rfl, rfl, rfl, d, _, _, rfl, hd, rfl, (by show 2 ≤ sizeLine; decide), fun p np => ?_⟩
      have s2 := same_upd (o := .tup [.str "lone", .ref l]) np
      exact kN s' g' es eg hs hg hne ep p l _ (sm.free np) nl (sm.trans s2) upd_same (s2 _ _ hl')
    · exact ⟨_, rfl, kW s' g' c way es eg hs hg hne ep hw hwl p H' np sm hpw⟩
end
end K

namespace K
open PySem PySem.Spec PyProof.Rows L2
open Sw (T3 Dist at? relax roundOf rounds IsNext Cand IsFar nbr candL WayTo lotOf)
abbrev sLaw : Stmt := top 29
theorem eqv_flats {H : Hp} {a b : Addr} {xs : List V} {m : Nat} (h1 : H a = some (.lst xs)) (h2 : H b = some (.lst xs)) (hf : ∀ v ∈ xs, flat v = true) (hl : xs.length ≤ 1000) : Eqv (m + 2) H (.ref a) (.ref b) := by
  refine .inr ⟨a, b, _, _, rfl, rfl, .inl ⟨h1, h2⟩, rfl, hl, fun i u v hu hv => ?_⟩
  rw [hu] at hv
  cases hv
  exact .inl ⟨rfl, hf _ (List.mem_of_getElem? hu)⟩
theorem eqv_flatt {H : Hp} {a b : Addr} {xs : List V} {m : Nat} (h1 : H a = some (.tup xs)) (h2 : H b = some (.tup xs)) (hf : ∀ v ∈ xs, flat v = true) (hl : xs.length ≤ 1000) : Eqv (m + 2) H (.ref a) (.ref b) := by
  refine .inr ⟨a, b, _, _, rfl, rfl, .inr ⟨h1, h2⟩, rfl, hl, fun i u v hu hv => ?_⟩
  rw [hu] at hv
  cases hv
  exact .inl ⟨rfl, hf _ (List.mem_of_getElem? hu)⟩
theorem eqv_pair {H : Hp} {a b : Addr} {x u v : V} {m : Nat} (h1 : H a = some (.tup [x, u])) (h2 : H b = some (.tup [x, v])) (hx : flat x = true) (h : Eqv (m + 1) H u v) : Eqv (m + 2) H (.ref a) (.ref b) := by
  refine .inr ⟨a, b, _, _, rfl, rfl, .inr ⟨h1, h2⟩, rfl, by show 2 ≤ 1000; decide, fun i y z hy hz => ?_⟩
  match i, hy, hz with
  | 0, hy, hz => cases hy; cases hz; exact .inl ⟨rfl, hx⟩
  | 1, hy, hz => cases hy; cases hz; exact h
  | i + 2, hy, hz => simp at hy
theorem flat_ints (l : List Nat) : ∀ v ∈ l.map (fun h => V.int (h : Nat)), flat v = true := fun v m => by
  obtain ⟨h, _, rfl⟩ := List.mem_map.mp m
  rfl
theorem log_small {i : Int} (h : i.natAbs ≤ 100) : i.natAbs.log2 < 1920 := Nat.lt_of_le_of_lt (Nat.log2_le_self _) (by omega)
theorem fits_perm {n : Nat} {xs ys : List T3} (h : Good n xs) (p : ∀ e ∈ ys, e ∈ xs) : Good n ys := fun e m => h e (p e m)
theorem eqv_tiesAll : ∀ ts : List T3, PyData.eqvAll (ts.map tupData) (ts.map tupData) = true
  | [] => by simp [PyData.eqvAll]
  | e :: ts => by simp [PyData.eqvAll, PyData.eqv, tupData, eqv_tiesAll ts]
theorem eqv_ties (ts : List T3) : PyData.eqv (tieData ts) (tieData ts) = true := by
  have := eqv_tiesAll ts
  simpa [tieData, PyData.eqv] using this
theorem big_not {n : Nat} (h : n ≤ 8) : ¬ (0 ≤ (10 : Int) ^ (20 : Int).toNat ∧ (10 : Int) ^ (20 : Int).toNat < n) := by
  have e : ((10 : Int) ^ (20 : Int).toNat) = 100000000000000000000 := by decide +kernel
  rw [e]
  omega
theorem any_pairs (i j u v : Int) : ([pairD i j, pairD j i].any fun z => PyData.eqv z (pairD u v)) = decide ((i = u ∧ j = v) ∨ (j = u ∧ i = v)) := by
  simp only [List.any_cons, List.any_nil, pair_eqv, Bool.or_false]
  by_cases h1 : (i = u ∧ j = v) <;> by_cases h2 : (j = u ∧ i = v) <;> simp [h1, h2]
section
variable {P : Program} {w : World} {K : PySem.W.Frag} {mg : Str → Option Value} {base : Heap}
theorem scLaw : FnScope ["_law_script", "_law_box_here", "_law_many", "_law_ties", "_law_handed", "_law_one", "_law_other", "_law_left", "_law_tie", "_law_due", "_law_odd", "_law_told"] ["_law_script"] (defScope sLaw) := ⟨rfl, rfl, rfl, by decide +kernel, rfl, by decide +kernel, by decide +kernel⟩
theorem ok_law {f fB fT fS fM fU fL fN fO : Addr} {fd fdB fdT fdS fdM fdU fdL fdN fdO : FuncData} (F : Fun K "law" "law" sLaw f fd) (T : BT mg)
    (c_law_box : Cal P w K mg base 14 "_law_box" fB fdB ["_law_script"] (spBox K)) (c_law_take : Cal P w K mg base 14 "_law_take" fT fdT ["_law_box_here", "_law_sides"] spTake)
    (c_law_same : Cal P w K mg base 14 "_law_same" fS fdS ["_law_found", "_law_due"] (spSame 14)) (c_law_shuffled : Cal P w K mg base 14 "_law_shuffled" fU fdU ["_law_box_here", "_law_some"] spShuf) (c_law_some_ties : Cal P w K mg base 14 "_law_some_ties" fM fdM ["_law_box_here", "_law_many", "_law_odds"] spSome)
    (c_law_least : Cal P w K mg base 14 "_law_least" fL fdL ["_law_many", "_law_ties", "_law_start", "_law_goal"] spLLeast) (c_law_lot : Cal P w K mg base 14 "_law_lot" fO fdO ["_law_many", "_law_ties", "_law_start"] spReach')
    (c_law_tried : Cal P w K mg base 14 "_law_tried" fN fdN ["_law_many", "_law_ties", "_law_one", "_law_other"] spTriedR) : FnOk P w K mg base CX0 15 f fd ["_law_script"] (spLaw K) := by
  refine F.ok scLaw (fun vs H Q E h => ?_) (fun cdv A outer s H vs Q E hr h => ?_)
  · obtain ⟨a, ns, rfl, _⟩ := h
    rfl
  · obtain ⟨a, ns, rfl, hS, hlen, kk⟩ := h
    refine ⟨_, (pss_cons (ps_set (i := 1) scLaw.nd rfl (.inl rfl) (pe_call c_law_box.ok hr (by rfl) c_law_box.g c_law_box.kp c_law_box.b .nil pass0 (pa_cons (pv 0) pa_nil)))
      (pss_cons (ps_set (i := 2) scLaw.nd rfl (.inl rfl) (pe_op op_add pe_int (pe_call c_law_take.ok hr (by rfl) c_law_take.g c_law_take.kp c_law_take.b .nil pass0 (pa_cons (pv 1) (pa_cons pe_int pa_nil)))))
      (pss_cons (ps_set (i := 3) scLaw.nd rfl (.inl rfl) (pe_call c_law_shuffled.ok hr (by rfl) c_law_shuffled.g c_law_shuffled.kp c_law_shuffled.b .nil pass0 (pa_cons (pv 1) (pa_cons (pe_call c_law_some_ties.ok hr (by rfl) c_law_some_ties.g c_law_some_ties.kp c_law_some_ties.b .nil pass0 (pa_cons (pv 1) (pa_cons (pv 2) (pa_cons (pe_op op_add pe_int (pe_call c_law_take.ok hr (by rfl) c_law_take.g c_law_take.kp c_law_take.b .nil pass0 (pa_cons (pv 1) (pa_cons pe_int pa_nil)))) pa_nil)))) pa_nil))))
      (pss_cons (ps_set (i := 4) scLaw.nd rfl (.inl rfl) (pe_callTy call_list_of (by rfl) T.list (by decide +kernel) (pa_cons (pv 3) pa_nil)))
      (pss_cons (ps_for PassesOwn.never rfl (pi_range1 (by rfl) T.range (pa_cons (pv 2) pa_nil)) (pg_name (i := 5) scLaw.nd rfl (Or.inr rfl))
        (pss_one (ps_for PassesOwn.never rfl (pi_range1 (by rfl) T.range (pa_cons (pv 2) pa_nil)) (pg_name (i := 6) scLaw.nd rfl (Or.inr rfl))
          (pss_cons (ps_setLc (i := 7) (own := [("_law_tie", 8)]) (g := (gName 8)) rfl scLaw.nd rfl rfl (sw_true rfl rfl rfl (by decide +kernel)) (by exact (pi_list (pv 3))) (blkOk_by (own := [("_law_tie", 8)]) (N := ["_law_script", "_law_box_here", "_law_many", "_law_ties", "_law_handed", "_law_one", "_law_other", "_law_left", "_law_tie", "_law_due", "_law_odd", "_law_told"]) (sc := (defScope sLaw)) (by decide +kernel)) (fun _ _ _ _ _ => by exact (pg_name (i := 8) scLaw.nd rfl (Or.inl rfl))) (fun _ _ _ _ _ => by exact (pts_one (pt_cmpR (r := rNotInDT K) (op_notInDT (room65 hr)) (pe_slice (r := rSlT K) sl_tup (pv 8) po_none (po_some pe_int)) (pe_tup (pa_cons (pe_tup (pa_cons (pv 5) (pa_cons (pv 6) pa_nil))) (pa_cons (pe_tup (pa_cons (pv 6) (pa_cons (pv 5) pa_nil))) pa_nil))) (by rfl)))) (fun _ _ _ _ _ => by exact (pv 8)))
          (pss_cons (ps_set (i := 9) scLaw.nd rfl (.inl rfl) (pe_call c_law_least.ok hr (by rfl) c_law_least.g c_law_least.kp c_law_least.b .nil pass0 (pa_cons (pv 2) (pa_cons (pv 7) (pa_cons (pv 5) (pa_cons (pv 6) pa_nil))))))
          (pss_cons (ps_if (pt_cmpR op_isN (pv 9) pe_non (nomark _))
            (pss_one (ps_set (i := 9) scLaw.nd rfl (.inl rfl) (pe_tup (pa_cons pe_str (pa_cons (pe_call c_law_lot.ok hr (by rfl) c_law_lot.g c_law_lot.kp c_law_lot.b .nil pass0 (pa_cons (pv 2) (pa_cons (pv 7) (pa_cons (pv 5) pa_nil)))) pa_nil)))))
            pss_nil)
          (pss_cons (ps_if (pt_cmpR op_eq (pv 5) (pv 6) (nomark _))
            (pss_one (ps_set (i := 9) scLaw.nd rfl (.inl rfl) (pe_tup (pa_cons pe_str (pa_cons (pv 5) (pa_cons (pv 5) pa_nil))))))
            pss_nil)
          (pss_one (ps_if (PW.pt (pw_or (pt_not (pt_val (pe_call c_law_same.ok hr (by rfl) c_law_same.g c_law_same.kp c_law_same.b .nil pass0 (pa_cons (pe_call c_law_tried.ok hr (by rfl) c_law_tried.g c_law_tried.kp c_law_tried.b .nil pass0 (pa_cons (pv 2) (pa_cons (pv 4) (pa_cons (pv 5) (pa_cons (pv 6) pa_nil))))) (pa_cons (pv 9) pa_nil))))) (pw_or1 (pt_cmpR (r := rNeD K) (op_neD hr.units) (pv 4) (pv 3) (nomark _)))))
            (pss_one (ps_ret pe_bl))
            pss_nil)))))))))
      (pss_cons (ps_set (i := 10) scLaw.nd rfl (.inl rfl) (pe_ix (r := rIxL K) ix_list (pe_lst (pa_cons (pe_un un_neg pe_int) (pa_cons (pv 2) (pa_cons (pe_op op_pow pe_int pe_int) pa_nil)))) (pe_call c_law_take.ok hr (by rfl) c_law_take.g c_law_take.kp c_law_take.b .nil pass0 (pa_cons (pv 1) (pa_cons pe_int pa_nil))) (fun _ _ => rfl)))
      (pss_cons (ps_set (i := 11) scLaw.nd rfl (.inl rfl) (pe_lst (pa_cons (pe_call c_law_tried.ok hr (by rfl) c_law_tried.g c_law_tried.kp c_law_tried.b .nil pass0 (pa_cons (pv 2) (pa_cons (pv 3) (pa_cons (pv 10) (pa_cons (pv 10) pa_nil))))) (pa_cons (pe_call c_law_tried.ok hr (by rfl) c_law_tried.g c_law_tried.kp c_law_tried.b .nil pass0 (pa_cons (pv 2) (pa_cons (pv 3) (pa_cons pe_int (pa_cons (pv 10) pa_nil))))) (pa_cons (pe_call c_law_tried.ok hr (by rfl) c_law_tried.g c_law_tried.kp c_law_tried.b .nil pass0 (pa_cons (pv 2) (pa_cons (pv 3) (pa_cons (pv 10) (pa_cons pe_int pa_nil))))) pa_nil)))))
      (pss_one (ps_ret (pe_call c_law_same.ok hr (by rfl) c_law_same.g c_law_same.kp c_law_same.b .nil pass0 (pa_cons (pv 11) (pa_cons (pe_op op_rep (pe_lst (pa_cons (pe_tup (pa_cons pe_str (pa_cons (pv 10) pa_nil))) pa_nil)) pe_int) pa_nil)))))))))))), ?_⟩
    refine ⟨_, rfl, a, ns, rfl, hS, hlen, fun p q H1 np nq B1 s1 => ?_⟩
    refine ⟨_, rfl, p, q, 7, rfl, B1, by omega, by omega, fun z H3 hz0 hz1 B3 b3 => ?_⟩
    refine ⟨_, _, rfl, rfl, ?_⟩
    obtain ⟨n, en⟩ : ∃ n : Nat, 2 + z = (n : Nat) := ⟨(2 + z).toNat, by omega⟩
    show gName 2 (V.int (2 + z)) _ _ _
    rw [en]
    have hn0 : 0 < n := by omega
    have hn2 : 2 ≤ n := by omega
    have hn8 : n ≤ 8 := by omega
    refine ⟨_, rfl, _, rfl, _, rfl, _, rfl, p, q, 7, rfl, B3, by omega, by omega, fun z4 H4 hz40 hz41 B4 b4 => ?_⟩
    refine ⟨_, _, rfl, rfl, p, q, n, _, rfl, B4, hn0, hn8, fun t0 H5 ts0 nt0 B5 b5 hT5 hG0 hL0 => ?_⟩
    have ht0 : t0 ≠ p := by
      obtain ⟨o4, e4⟩ := B4.p_some
      exact Ne.symm (ne_of_none e4 nt0)
    obtain ⟨as0, hs1, hs2⟩ := hT5
    have has0 : as0.length = ts0.length := paired_len hs2
    refine ⟨p, q, t0, _, rfl, B5, ht0, hs1, by rw [List.length_map]; omega, fun t H6 ys nt B6 b6 hy hperm => ?_⟩
    obtain ⟨bs, rfl, hbp⟩ := perm_refs hperm
    obtain ⟨ts, hP6, hsub⟩ := paired_pick hs2 bs (fun x m => hbp.mem_iff.mp m)
    have hbl : bs.length = ts.length := paired_len hP6
    have hL : ts.length ≤ 14 := by rw [← hbl, hbp.length_eq, has0]; exact hL0
    have hG : Good n ts := fun e m => hG0 e (hsub e m)
    have hF := hG.fits
    have hPr : ∀ e ∈ ts, 1 ≤ e.2.2 ∧ e.2.2 ≤ 9 := fun e m => (hG e m).2.2
    have tieK : ∀ {Ha Hb : Hp} {x : Addr} {us : List T3}, x ≠ p → BoxAt Ha p q → But p Ha Hb → TiesAt Ha x us → TiesAt Hb x us := fun {Ha Hb x us} hx BB bb TT => by
      obtain ⟨as, h1, h2⟩ := TT
      obtain ⟨_, _, _, _, z1, _⟩ := BB
      exact ⟨as, bb _ _ h1 hx, paired_mono (fun x e q => bb _ _ q (ne_of q z1 (fun z => by cases z))) h2⟩
    have htp : t ≠ p := by
      obtain ⟨o5, e5⟩ := B5.p_some
      exact Ne.symm (ne_of_none e5 nt)
    have hT6 : TiesAt H6 t ts := by
      obtain ⟨_, _, _, _, z1, _⟩ := id B5
      exact ⟨bs, hy, paired_mono (fun x e q => b6 _ _ q (ne_of q z1 (fun z => by cases z))) hP6⟩
    clear hs1 hs2 hperm hbp hP6 hsub
    -- handed
    obtain ⟨cs, hc1, hc2⟩ := id hT6
    refine ⟨_, rfl, t, _, rfl, .inl (SqL.of hc1), fun hd nhd => ?_⟩
    have s7 := same_upd (o := .lst (cs.map V.ref)) nhd
    have hT7 := hT6.same s7
    have hD7 : TiesAt (upd H6 hd (.lst (cs.map V.ref))) hd ts := ⟨cs, upd_same, paired_mono (fun x e q => s7 _ _ q) hc2⟩
    have B7 := B6.same s7
    have hdp : hd ≠ p := by
      obtain ⟨o5, e5⟩ := B6.p_some
      exact Ne.symm (ne_of_none e5 nhd)
    show tSeq _ _ _ _ (upd H6 hd (.lst (cs.map V.ref)))
    generalize upd H6 hd (.lst (cs.map V.ref)) = H7 at hT7 hD7 B7
    clear hc1 hc2
    refine ⟨_, rfl, n, rfl, by omega, by omega, for_range (n := n) (fun i σ H' => ∃ y5 y6 y7 y8 y9, σ = [some (.ref a), some (.ref p), some (.int (n : Nat)), some (.ref t), some (.ref hd), y5, y6, y7, y8, y9, none, none] ∧ Same H7 H')
      ⟨_, _, _, _, _, rfl, Same.refl _⟩ ?_ ?_⟩
    · rintro i σ H8 hi ⟨w5, w6, w7, w8, w9, rfl, s8⟩
      show gName 5 (V.int (0 + (i : Int))) _ _ _
      rw [Int.zero_add]
      refine ⟨_, rfl, n, rfl, by omega, by omega, for_range (n := n) (fun j σ H' => ∃ y6 y7 y8 y9, σ = [some (.ref a), some (.ref p), some (.int (n : Nat)), some (.ref t), some (.ref hd), some (.int (i : Nat)), y6, y7, y8, y9, none, none] ∧ Same H7 H')
        ⟨_, _, _, _, rfl, s8⟩ ?_ ?_⟩
      · rintro j σ H9 hj ⟨v6, v7, v8, v9, rfl, s9⟩
        show gName 6 (V.int (0 + (j : Int))) _ _ _
        rw [Int.zero_add]
        have hT9 := hT7.same s9
        have hD9 := hD7.same s9
        obtain ⟨as, ht, hp⟩ := id hT9
        have hal := paired_len hp
        refine ⟨_, rfl, t, rfl, ⟨_, SqL.of ht⟩, fun D nD => ?_⟩
        refine lc_list (K := K) (a := t) (xs := as.map V.ref) (fun i' H' => Same H9 H' ∧ ∃ bs : List Addr, H' D = some (.lst (bs.map V.ref)) ∧ Paired (fun a e => H9 a = some (.tup (tv e))) bs (lft (ts.take i') i j) ∧ bs.length ≤ i') ⟨same_upd nD, [], upd_same, by rw [List.take_zero]; exact .nil, Nat.le_refl _⟩ (fun i H' _ z => SqL.of (z.1 _ _ ht)) ?_ ?_
        · rintro i' x H10 hx ⟨s10, bs, hDD, hB, hbl⟩
          rw [List.getElem?_map] at hx
          obtain ⟨ad, had, rfl⟩ := Option.map_eq_some_iff.mp hx
          obtain ⟨e, he, hat⟩ := paired_at hp i' ad had
          have hi' : i' < ts.length := (List.getElem?_eq_some_iff.mp he).1
          have step : lft (ts.take (i' + 1)) i j = if ((e.1 = i ∧ e.2.1 = j) ∨ (e.2.1 = i ∧ e.1 = j)) then lft (ts.take i') i j else lft (ts.take i') i j ++ [e] := by
            rw [List.take_succ, he]
            exact lft_snoc _ _ _ _
          have hat2 := s10 _ _ hat
          refine ⟨rfl, ?_⟩
          refine ⟨_, rfl, 2, rfl, ad, _, rfl, SqT.of hat2, (show ¬ (HT.sIx 3 0 none = 0 ∧ HT.sIx 3 3 (some 2) = 3) by decide), fun p1 np1 => ?_⟩
          have u1 := same_upd (o := .tup (cutV (tv e) none (some 2))) np1
          have hc : cutV (tv e) none (some 2) = [.int (e.1 : Nat), .int (e.2.1 : Nat)] := rfl
          refine ⟨_, rfl, _, rfl, (by show 2 ≤ sizeLine; decide), fun p2 np2 => ⟨_, rfl, _, rfl, (by show 2 ≤ sizeLine; decide), fun p3 np3 => ⟨(by show 2 ≤ sizeLine; decide), fun p4 np4 => ?_⟩⟩⟩
          have u2 := same_upd (o := .tup [.int (i : Nat), .int (j : Nat)]) np2
          have u3 := same_upd (o := .tup [.int (j : Nat), .int (i : Nat)]) np3
          have u4 := same_upd (o := .tup [.ref p2, .ref p3]) np4
          refine ⟨pairD e.1 e.2.1, [pairD i j, pairD j i], dp_pair (u4 _ _ (u3 _ _ (u2 _ _ upd_same))), .tup (SqT.of upd_same) (.cons (dp_pair (u4 _ _ (u3 _ _ upd_same))) (.cons (dp_pair (u4 _ _ upd_same)) .nil)), pair_shaped _ _, pairs_shaped _ _ _ _, _, rfl, ?_⟩
          rw [any_pairs]
          have sA : Same H10 _ := u1.trans (u2.trans (u3.trans u4))
          by_cases h1 : (((i : Int) = e.1 ∧ (j : Int) = e.2.1) ∨ ((j : Int) = e.1 ∧ (i : Int) = e.2.1))
          · rw [decide_eq_true h1]
            refine iteF ?_
            exact ⟨s10.trans sA, bs, sA _ _ hDD, by rw [step, if_pos (by omega)]; exact hB, by omega⟩
          · rw [decide_eq_false h1]
            refine iteT ?_
            refine ⟨_, rfl, _, sA _ _ hDD, by rw [List.length_map]; exact small1000 (by omega), ?_, bs ++ [ad], ?_, ?_, by rw [List.length_append]; show bs.length + 1 ≤ i' + 1; omega⟩
            · exact fun b o q => by
                rw [upd_ne (ne_of_none q nD)]
                exact sA _ _ (s10 _ _ q)
            · rw [upd_same, List.map_append]
              rfl
            · rw [step, if_neg (by omega)]
              exact paired_append hB (.cons hat .nil)
        · rintro H10 ⟨s10, bs, hDD, hB, hbl⟩
          rw [List.length_map, hal, List.take_length] at hB
          have hLf : TiesAt H10 D (lft ts i j) := ⟨bs, hDD, paired_mono (fun a e q => s10 _ _ q) hB⟩
          have hll2 := lft_len ts i j
          refine ⟨_, rfl, _, rfl, _, rfl, _, rfl, n, i, j, D, lft ts i j, rfl, by omega, hi, hj, hLf, by omega, lft_good hG, fun ep H11 s11 => ?_, fun c way ep hw hwl p1 H11 np1 s11 hpw => ?_⟩
          · -- no way
            refine ⟨_, rfl, rfl, _, rfl, iteT ?_⟩
            refine ⟨_, rfl, _, rfl, _, rfl, n, i, D, lft ts i j, rfl, hi, by omega, hLf.same s11, by omega, lft_fits hF, fun l H12 nl s12 hl12 => ⟨(by show 2 ≤ sizeLine; decide), fun du ndu => ?_⟩⟩
            have s13 := same_upd (o := .tup [.str "lone", .ref l]) ndu
            have hll := lot_len n (farD n (lft ts i j) i)
            refine ⟨_, rfl, _, rfl, rfl, _, rfl, ?_⟩
            by_cases hij : i = j
            · subst hij
              rw [decide_eq_true rfl]
              refine iteT ?_
              refine ⟨_, rfl, _, rfl, (by show 3 ≤ sizeLine; decide), fun du2 ndu2 => ?_⟩
              have s14 := same_upd (o := .tup [.str "notie", .int (i : Nat), .int (i : Nat)]) ndu2
              have sX : Same H9 _ := s10.trans (s11.trans (s12.trans (s13.trans s14)))
              have hdue := upd_same (H := upd H12 du (.tup [.str "lone", .ref l])) (a := du2) (o := .tup [.str "notie", .int (i : Nat), .int (i : Nat)])
              refine ⟨_, rfl, _, rfl, _, rfl, _, rfl, n, (i : Nat), (i : Nat), hd, ts, rfl, by omega, log_small (by omega), log_small (by omega), hD9.same sX, by omega, hF, hPr, fun z => absurd (by omega) z, fun _ z => absurd (by omega) z, fun _ _ p2 Hy np2 sy hp2 => ?_, fun s' g' es eg hs hg hne => absurd (by omega) hne, fun s' g' c2 way2 es eg hs hg hne => absurd (by omega) hne⟩
              refine ⟨_, rfl, _, _, rfl, eqv_flatt hp2 (sy _ _ hdue) (fun v m => by simp at m; rcases m with e | e <;> subst e <;> rfl) (by show 3 ≤ 1000; decide), fun Hz sz => ⟨_, rfl, iteF ?_⟩⟩
              have sF := sX.trans (sy.trans sz)
              refine ⟨_, rfl, _, rfl, _, _, dp_ties (hD9.same sF), dp_ties (hT9.same sF), shaped_ties _, shaped_ties _, _, rfl, ?_⟩
              rw [eqv_ties]
              refine iteF ?_
              exact ⟨_, _, _, _, rfl, s9.trans sF⟩
            · have hne : ¬ V.int (i : Nat) = V.int (j : Nat) := fun z => hij (by injection z with z; have : (i : Int) = (j : Int) := z; omega)
              rw [decide_eq_false hne]
              refine iteF ?_
              have sX : Same H9 _ := s10.trans (s11.trans (s12.trans s13))
              have hdue := upd_same (H := H12) (a := du) (o := .tup [.str "lone", .ref l])
              have hl13 := s13 _ _ hl12
              refine ⟨_, rfl, _, rfl, _, rfl, _, rfl, n, (i : Nat), (j : Nat), hd, ts, rfl, by omega, log_small (by omega), log_small (by omega), hD9.same sX, by omega, hF, hPr, fun z => absurd (by omega) z, fun _ z => absurd (by omega) z, fun _ z => absurd (by omega) hij, fun s' g' es eg hs hg hne2 ep2 p2 l2 Hy np2 nl2 sy hp2 hl2 => ?_, fun s' g' c2 way2 es eg hs hg hne2 ep2 => ?_⟩
              · have es : s' = i := by omega
                have eg : g' = j := by omega
                subst es
                subst eg
                refine ⟨_, rfl, _, _, rfl, eqv_pair hp2 (sy _ _ hdue) rfl (eqv_flats hl2 (sy _ _ hl13) (flat_ints _) (by rw [List.length_map]; omega)), fun Hz sz => ⟨_, rfl, iteF ?_⟩⟩
                have sF := sX.trans (sy.trans sz)
                refine ⟨_, rfl, _, rfl, _, _, dp_ties (hD9.same sF), dp_ties (hT9.same sF), shaped_ties _, shaped_ties _, _, rfl, ?_⟩
                rw [eqv_ties]
                refine iteF ?_
                exact ⟨_, _, _, _, rfl, s9.trans sF⟩
              · have es : s' = i := by omega
                have eg : g' = j := by omega
                subst es
                subst eg
                rw [ep] at ep2
                cases ep2
          · -- a way
            refine ⟨_, rfl, rfl, _, rfl, iteF ?_⟩
            obtain ⟨w1, hd1, hw1⟩ := hpw
            refine ⟨_, rfl, _, rfl, rfl, _, rfl, ?_⟩
            by_cases hij : i = j
            · subst hij
              rw [decide_eq_true rfl]
              refine iteT ?_
              refine ⟨_, rfl, _, rfl, (by show 3 ≤ sizeLine; decide), fun du2 ndu2 => ?_⟩
              have s14 := same_upd (o := .tup [.str "notie", .int (i : Nat), .int (i : Nat)]) ndu2
              have sX : Same H9 _ := s10.trans (s11.trans s14)
              have hdue := upd_same (H := H11) (a := du2) (o := .tup [.str "notie", .int (i : Nat), .int (i : Nat)])
              refine ⟨_, rfl, _, rfl, _, rfl, _, rfl, n, (i : Nat), (i : Nat), hd, ts, rfl, by omega, log_small (by omega), log_small (by omega), hD9.same sX, by omega, hF, hPr, fun z => absurd (by omega) z, fun _ z => absurd (by omega) z, fun _ _ p2 Hy np2 sy hp2 => ?_, fun s' g' es eg hs hg hne => absurd (by omega) hne, fun s' g' c2 way2 es eg hs hg hne => absurd (by omega) hne⟩
              refine ⟨_, rfl, _, _, rfl, eqv_flatt hp2 (sy _ _ hdue) (fun v m => by simp at m; rcases m with e | e <;> subst e <;> rfl) (by show 3 ≤ 1000; decide), fun Hz sz => ⟨_, rfl, iteF ?_⟩⟩
              have sF := sX.trans (sy.trans sz)
              refine ⟨_, rfl, _, rfl, _, _, dp_ties (hD9.same sF), dp_ties (hT9.same sF), shaped_ties _, shaped_ties _, _, rfl, ?_⟩
              rw [eqv_ties]
              refine iteF ?_
              exact ⟨_, _, _, _, rfl, s9.trans sF⟩
            · have hne : ¬ V.int (i : Nat) = V.int (j : Nat) := fun z => hij (by injection z with z; have : (i : Int) = (j : Int) := z; omega)
              rw [decide_eq_false hne]
              refine iteF ?_
              have sX : Same H9 _ := s10.trans s11
              refine ⟨_, rfl, _, rfl, _, rfl, _, rfl, n, (i : Nat), (j : Nat), hd, ts, rfl, by omega, log_small (by omega), log_small (by omega), hD9.same sX, by omega, hF, hPr, fun z => absurd (by omega) z, fun _ z => absurd (by omega) z, fun _ z => absurd (by omega) hij, fun s' g' es eg hs hg hne2 ep2 => ?_, fun s' g' c2 way2 es eg hs hg hne2 ep2 hw2 hwl2 p2 Hy np2 sy hpw2 => ?_⟩
              · have es : s' = i := by omega
                have eg : g' = j := by omega
                subst es
                subst eg
                rw [ep] at ep2
                cases ep2
              · have es : s' = i := by omega
                have eg : g' = j := by omega
                subst es
                subst eg
                rw [ep] at ep2
                cases ep2
                have ew := Sw.wayto_one hw2 hw
                subst ew
                obtain ⟨w2, hd2, hw2'⟩ := hpw2
                refine ⟨_, rfl, _, _, rfl, eqv_pair hd2 (sy _ _ hd1) rfl (eqv_flatt hw2' (sy _ _ hw1) (flat_ints _) (by rw [List.length_map]; omega)), fun Hz sz => ⟨_, rfl, iteF ?_⟩⟩
                have sF := sX.trans (sy.trans sz)
                refine ⟨_, rfl, _, rfl, _, _, dp_ties (hD9.same sF), dp_ties (hT9.same sF), shaped_ties _, shaped_ties _, _, rfl, ?_⟩
                rw [eqv_ties]
                refine iteF ?_
                exact ⟨_, _, _, _, rfl, s9.trans sF⟩
      · rintro σ H9 ⟨v6, v7, v8, v9, rfl, s9⟩
        exact ⟨_, _, _, _, _, rfl, s9⟩
    · rintro σ H8 ⟨w5, w6, w7, w8, w9, rfl, s8⟩
      have B8 := B7.same s8
      have hT8 := hT7.same s8
      refine ⟨1, rfl, _, rfl, 10, 20, rfl, rfl, ⟨by decide, by decide, by decide⟩, (by show 3 ≤ sizeLine; decide), fun l nl => ?_⟩
      have u1 := same_upd (o := .lst [.int (-1), .int (n : Nat), .int (10 ^ (20 : Int).toNat)]) nl
      obtain ⟨op, ep⟩ := B8.p_some
      have nlp : l ≠ p := Ne.symm (ne_of_none ep nl)
      refine ⟨_, rfl, p, q, 3, rfl, B8.same u1, by omega, by omega, fun z9 H9 hz90 hz91 B9 b9 => ?_⟩
      have hl9 : H9 l = some (.lst [.int (-1), .int (n : Nat), .int (10 ^ (20 : Int).toNat)]) := b9 _ _ upd_same nlp
      have hT9 := tieK htp (B8.same u1) b9 (hT8.same u1)
      have hv : ∃ o : Int, atI [V.int (-1), V.int (n : Nat), V.int (10 ^ (20 : Int).toNat)] z9 = some (.int o) ∧ o.natAbs.log2 < 1920 ∧ ¬ (0 ≤ o ∧ o < n) := by
        have : z9 = 0 ∨ z9 = 1 ∨ z9 = 2 := by omega
        rcases this with e | e | e
        · subst e; exact ⟨-1, rfl, log_small (by decide), by omega⟩
        · subst e; exact ⟨(n : Nat), rfl, log_small (by omega), by omega⟩
        · subst e; exact ⟨10 ^ (20 : Int).toNat, rfl, by decide +kernel, big_not hn8⟩
      obtain ⟨o, ho, ho1, hno⟩ := hv
      refine ⟨l, _, _, _, rfl, rfl, SqL.of hl9, ho, ?_⟩
      -- tried (odd, odd)
      refine ⟨_, rfl, _, rfl, _, rfl, _, rfl, n, o, o, t, ts, rfl, by omega, ho1, ho1, hT9, by omega, hF, hPr, fun _ p1 Ha np1 sa hp1 => ?_, fun z => absurd z hno, fun z => absurd z hno, fun s' g' es eg hs hg => absurd (by omega) hno, fun s' g' c way es eg hs hg => absurd (by omega) hno⟩
      have hTa := hT9.same sa
      refine ⟨_, rfl, _, rfl, _, rfl, n, 0, o, t, ts, rfl, by omega, log_small (by decide), ho1, hTa, by omega, hF, hPr, fun z => absurd (by omega) z, fun _ _ p2 Hb np2 sb hp2 => ?_, fun _ z => absurd (by omega) hno, fun s' g' es eg hs hg => absurd (by omega) hno, fun s' g' c way es eg hs hg => absurd (by omega) hno⟩
      have hTb := hTa.same sb
      refine ⟨_, rfl, _, rfl, _, rfl, n, o, 1, t, ts, rfl, by omega, ho1, log_small (by decide), hTb, by omega, hF, hPr, fun _ p3 Hc np3 sc hp3 => ?_, fun z => absurd z hno, fun z => absurd z hno, fun s' g' es eg hs hg => absurd (by omega) hno, fun s' g' c way es eg hs hg => absurd (by omega) hno⟩
      refine ⟨(by show 3 ≤ sizeLine; decide), fun tl ntl => ?_⟩
      have u2 := same_upd (o := .lst [.ref p1, .ref p2, .ref p3]) ntl
      refine ⟨_, rfl, _, rfl, (by show 2 ≤ sizeLine; decide), fun pd npd => ⟨(by show 1 ≤ sizeLine; decide), fun pl npl => ?_⟩⟩
      have u3 := same_upd (o := .tup [.str "nohouse", .int o]) npd
      have u4 := same_upd (o := .lst [.ref pd]) npl
      refine ⟨pl, 3, [.ref pd], rfl, rfl, upd_same, by decide, by decide, (by show 3 ≤ sizeLine; decide), fun pr npr => ?_⟩
      have u5 := same_upd (o := .lst (List.replicate (3 : Int).toNat [V.ref pd]).flatten) npr
      have er : (List.replicate (3 : Int).toNat [V.ref pd]).flatten = [.ref pd, .ref pd, .ref pd] := rfl
      have uA : Same Hc _ := u2.trans (u3.trans (u4.trans u5))
      have fl : ∀ {b : Addr} {Hx : Hp}, Hx b = some (.tup [.str "nohouse", .int o]) → Hx pd = some (.tup [.str "nohouse", .int o]) → Eqv 13 Hx (.ref b) (.ref pd) := fun {b Hx} h1 h2 => eqv_flatt h1 h2 (fun v m => by simp at m; rcases m with e | e <;> subst e <;> rfl) (by show 2 ≤ 1000; decide)
      have hpd := u5 _ _ (u4 _ _ (upd_same (H := upd Hc tl (.lst [.ref p1, .ref p2, .ref p3])) (a := pd) (o := .tup [.str "nohouse", .int o])))
      refine ⟨_, _, rfl, .inr ⟨tl, pr, [.ref p1, .ref p2, .ref p3], [.ref pd, .ref pd, .ref pd], rfl, rfl, .inl ⟨u5 _ _ (u4 _ _ (u3 _ _ upd_same)), upd_same⟩, rfl, (by show 3 ≤ 1000; decide), fun m u v hu hv => ?_⟩, fun Hz sz => kk Hz⟩
      match m, hu, hv with
      | 0, hu, hv => cases hu; cases hv; exact fl (uA _ _ (sc _ _ (sb _ _ hp1))) hpd
      | 1, hu, hv => cases hu; cases hv; exact fl (uA _ _ (sc _ _ hp2)) hpd
      | 2, hu, hv => cases hu; cases hv; exact fl (uA _ _ hp3) hpd
      | m + 3, hu, hv => simp at hu
end
end K

namespace K
open PySem PySem.Spec PyProof.Rows L2
theorem all_mk {l : PySem.W.OpenLaw} {w : World} {K : PySem.W.Frag} {h : Heap} {mg : Str → Option Value} {fa f0 f1 f2 f3 f4 f5 f6 f7 f8 f9 f10 f11 f12 f13 f14 f15 f16 f17 f18 f19 f20 f21 CS fS TD CNoHouse fNoHouse NNoHouse CNoTie fNoTie NNoTie CNoWay fNoWay NNoWay CLone fLone NLone : Addr} (X : K.In h) (G : h.Ns mainGlobals mg) (hfa : mg "law" = some (.ref fa))
    {od0 an0 od1 an1 od2 an2 od3 an3 od4 an4 od5 an5 od6 an6 od7 an7 od8 an8 od9 an9 od10 an10 od11 an11 od12 an12 od13 an13 od14 an14 od15 an15 od16 an16 od17 an17 od18 an18 od19 an19 od20 an20 od21 an21 odS anS odT odNoHouse anNoHouse ddNoHouse odNoTie anNoTie ddNoTie odNoWay anNoWay ddNoWay odLone anLone ddLone : Option Addr} {sl0 sl1 sl2 sl3 sl4 sl5 sl6 sl7 sl8 sl9 sl10 sl11 sl12 sl13 sl14 sl15 sl16 sl17 sl18 sl19 sl20 sl21 slS slT slNoHouse slNoTie slNoWay slLone : Array (Option Value)} {oc0 kV0 dc0 pm0 cd0 ct0 oc1 kV1 dc1 pm1 cd1 ct1 oc2 kV2 dc2 pm2 cd2 ct2 oc3 kV3 dc3 pm3 cd3 ct3 oc4 kV4 dc4 pm4 cd4 ct4 oc5 kV5 dc5 pm5 cd5 ct5 oc6 kV6 dc6 pm6 cd6 ct6 oc7 kV7 dc7 pm7 cd7 ct7 oc8 kV8 dc8 pm8 cd8 ct8 oc9 kV9 dc9 pm9 cd9 ct9 oc10 kV10 dc10 pm10 cd10 ct10 oc11 kV11 dc11 pm11 cd11 ct11 oc12 kV12 dc12 pm12 cd12 ct12 oc13 kV13 dc13 pm13 cd13 ct13 oc14 kV14 dc14 pm14 cd14 ct14 oc15 kV15 dc15 pm15 cd15 ct15 oc16 kV16 dc16 pm16 cd16 ct16 oc17 kV17 dc17 pm17 cd17 ct17 oc18 kV18 dc18 pm18 cd18 ct18 oc19 kV19 dc19 pm19 cd19 ct19 oc20 kV20 dc20 pm20 cd20 ct20 oc21 kV21 dc21 pm21 cd21 ct21 ocS kVS dcS pmS cdS ctS ocT ocNoHouse kVNoHouse dcNoHouse pmNoHouse cdNoHouse ctNoHouse ocNoTie kVNoTie dcNoTie pmNoTie cdNoTie ctNoTie ocNoWay kVNoWay dcNoWay pmNoWay cdNoWay ctNoWay ocLone kVLone dcLone pmLone cdLone ctLone : Value} {tk1 tk2 : Tok} {nT : Nat}
    {nmNoHouse qnNoHouse nmNoTie qnNoTie nmNoWay qnNoWay nmLone qnLone : Str} {bsNoHouse bmNoHouse subNoHouse bsNoTie bmNoTie subNoTie bsNoWay bmNoWay subNoWay bsLone bmLone subLone : List Value} {snNoHouse snNoTie snNoWay snLone : List Str} {abNoHouse abNoTie abNoWay abLone : Bool} {colNoHouse colNoTie colNoWay colLone : Option Bool} {p0NoHouse p1NoHouse p2NoHouse p3NoHouse p5NoHouse p0NoTie p1NoTie p2NoTie p3NoTie p5NoTie p0NoWay p1NoWay p2NoWay p3NoWay p5NoWay p0Lone p1Lone p2Lone p3Lone p5Lone : Option Value}
    (a0 : PySem.W.nsIn K mainGlobals "_law_box" = some (some (.ref f0)))
    (l0 : K.lookup f0 = some ⟨oc0, od0, .func (PySem.W.fnOf "_law_box" "_law_box" (defArgs sBox) (defBody sBox) (defScope sBox) .none kV0 dc0 pm0 an0 cd0 ct0), sl0⟩)
    (c0 : PySem.W.codeIn K cd0 "_law_box" = true)
    (k0 : PySem.W.keepIn K (.ref f0) = true)
    (a1 : PySem.W.nsIn K mainGlobals "_law_take" = some (some (.ref f1)))
    (l1 : K.lookup f1 = some ⟨oc1, od1, .func (PySem.W.fnOf "_law_take" "_law_take" (defArgs sTake) (defBody sTake) (defScope sTake) .none kV1 dc1 pm1 an1 cd1 ct1), sl1⟩)
    (c1 : PySem.W.codeIn K cd1 "_law_take" = true)
    (k1 : PySem.W.keepIn K (.ref f1) = true)
    (a2 : PySem.W.nsIn K mainGlobals "_law_same" = some (some (.ref f2)))
    (l2 : K.lookup f2 = some ⟨oc2, od2, .func (PySem.W.fnOf "_law_same" "_law_same" (defArgs sSame) (defBody sSame) (defScope sSame) .none kV2 dc2 pm2 an2 cd2 ct2), sl2⟩)
    (c2 : PySem.W.codeIn K cd2 "_law_same" = true)
    (k2 : PySem.W.keepIn K (.ref f2) = true)
    (a3 : PySem.W.nsIn K mainGlobals "_law_pairs" = some (some (.ref f3)))
    (l3 : K.lookup f3 = some ⟨oc3, od3, .func (PySem.W.fnOf "_law_pairs" "_law_pairs" (defArgs sPairs) (defBody sPairs) (defScope sPairs) .none kV3 dc3 pm3 an3 cd3 ct3), sl3⟩)
    (c3 : PySem.W.codeIn K cd3 "_law_pairs" = true)
    (k3 : PySem.W.keepIn K (.ref f3) = true)
    (a4 : PySem.W.nsIn K mainGlobals "_law_shuffled" = some (some (.ref f4)))
    (l4 : K.lookup f4 = some ⟨oc4, od4, .func (PySem.W.fnOf "_law_shuffled" "_law_shuffled" (defArgs sShuf) (defBody sShuf) (defScope sShuf) .none kV4 dc4 pm4 an4 cd4 ct4), sl4⟩)
    (c4 : PySem.W.codeIn K cd4 "_law_shuffled" = true)
    (k4 : PySem.W.keepIn K (.ref f4) = true)
    (a5 : PySem.W.nsIn K mainGlobals "_law_some_ties" = some (some (.ref f5)))
    (l5 : K.lookup f5 = some ⟨oc5, od5, .func (PySem.W.fnOf "_law_some_ties" "_law_some_ties" (defArgs sSome) (defBody sSome) (defScope sSome) .none kV5 dc5 pm5 an5 cd5 ct5), sl5⟩)
    (c5 : PySem.W.codeIn K cd5 "_law_some_ties" = true)
    (k5 : PySem.W.keepIn K (.ref f5) = true)
    (a6 : PySem.W.nsIn K mainGlobals "_law_far" = some (some (.ref f6)))
    (l6 : K.lookup f6 = some ⟨oc6, od6, .func (PySem.W.fnOf "_law_far" "_law_far" (defArgs sLFar) (defBody sLFar) (defScope sLFar) .none kV6 dc6 pm6 an6 cd6 ct6), sl6⟩)
    (c6 : PySem.W.codeIn K cd6 "_law_far" = true)
    (k6 : PySem.W.keepIn K (.ref f6) = true)
    (a7 : PySem.W.nsIn K mainGlobals "_law_next" = some (some (.ref f7)))
    (l7 : K.lookup f7 = some ⟨oc7, od7, .func (PySem.W.fnOf "_law_next" "_law_next" (defArgs sLNext) (defBody sLNext) (defScope sLNext) .none kV7 dc7 pm7 an7 cd7 ct7), sl7⟩)
    (c7 : PySem.W.codeIn K cd7 "_law_next" = true)
    (k7 : PySem.W.keepIn K (.ref f7) = true)
    (a8 : PySem.W.nsIn K mainGlobals "_law_lot" = some (some (.ref f8)))
    (l8 : K.lookup f8 = some ⟨oc8, od8, .func (PySem.W.fnOf "_law_lot" "_law_lot" (defArgs sLLot) (defBody sLLot) (defScope sLLot) .none kV8 dc8 pm8 an8 cd8 ct8), sl8⟩)
    (c8 : PySem.W.codeIn K cd8 "_law_lot" = true)
    (k8 : PySem.W.keepIn K (.ref f8) = true)
    (a9 : PySem.W.nsIn K mainGlobals "_law_least" = some (some (.ref f9)))
    (l9 : K.lookup f9 = some ⟨oc9, od9, .func (PySem.W.fnOf "_law_least" "_law_least" (defArgs sLLeast) (defBody sLLeast) (defScope sLLeast) .none kV9 dc9 pm9 an9 cd9 ct9), sl9⟩)
    (c9 : PySem.W.codeIn K cd9 "_law_least" = true)
    (k9 : PySem.W.keepIn K (.ref f9) = true)
    (a10 : PySem.W.nsIn K mainGlobals "_law_tried" = some (some (.ref f10)))
    (l10 : K.lookup f10 = some ⟨oc10, od10, .func (PySem.W.fnOf "_law_tried" "_law_tried" (defArgs sTried) (defBody sTried) (defScope sTried) .none kV10 dc10 pm10 an10 cd10 ct10), sl10⟩)
    (c10 : PySem.W.codeIn K cd10 "_law_tried" = true)
    (k10 : PySem.W.keepIn K (.ref f10) = true)
    (a11 : PySem.W.nsIn K mainGlobals "check_house" = some (some (.ref f11)))
    (l11 : K.lookup f11 = some ⟨oc11, od11, .func (PySem.W.fnOf "check_house" "check_house" (defArgs sCheck) (defBody sCheck) (defScope sCheck) .none kV11 dc11 pm11 an11 cd11 ct11), sl11⟩)
    (c11 : PySem.W.codeIn K cd11 "check_house" = true)
    (k11 : PySem.W.keepIn K (.ref f11) = true)
    (a12 : PySem.W.nsIn K mainGlobals "cheapen" = some (some (.ref f12)))
    (l12 : K.lookup f12 = some ⟨oc12, od12, .func (PySem.W.fnOf "cheapen" "cheapen" (defArgs sCheap) (defBody sCheap) (defScope sCheap) .none kV12 dc12 pm12 an12 cd12 ct12), sl12⟩)
    (c12 : PySem.W.codeIn K cd12 "cheapen" = true)
    (k12 : PySem.W.keepIn K (.ref f12) = true)
    (a13 : PySem.W.nsIn K mainGlobals "far" = some (some (.ref f13)))
    (l13 : K.lookup f13 = some ⟨oc13, od13, .func (PySem.W.fnOf "far" "far" (defArgs sFar) (defBody sFar) (defScope sFar) .none kV13 dc13 pm13 an13 cd13 ct13), sl13⟩)
    (c13 : PySem.W.codeIn K cd13 "far" = true)
    (k13 : PySem.W.keepIn K (.ref f13) = true)
    (a14 : PySem.W.nsIn K mainGlobals "neighbours" = some (some (.ref f14)))
    (l14 : K.lookup f14 = some ⟨oc14, od14, .func (PySem.W.fnOf "neighbours" "neighbours" (defArgs sNbr) (defBody sNbr) (defScope sNbr) .none kV14 dc14 pm14 an14 cd14 ct14), sl14⟩)
    (c14 : PySem.W.codeIn K cd14 "neighbours" = true)
    (k14 : PySem.W.keepIn K (.ref f14) = true)
    (a15 : PySem.W.nsIn K mainGlobals "next_house" = some (some (.ref f15)))
    (l15 : K.lookup f15 = some ⟨oc15, od15, .func (PySem.W.fnOf "next_house" "next_house" (defArgs sNextH) (defBody sNextH) (defScope sNextH) .none kV15 dc15 pm15 an15 cd15 ct15), sl15⟩)
    (c15 : PySem.W.codeIn K cd15 "next_house" = true)
    (k15 : PySem.W.keepIn K (.ref f15) = true)
    (a16 : PySem.W.nsIn K mainGlobals "nexts" = some (some (.ref f16)))
    (l16 : K.lookup f16 = some ⟨oc16, od16, .func (PySem.W.fnOf "nexts" "nexts" (defArgs sNexts) (defBody sNexts) (defScope sNexts) .none kV16 dc16 pm16 an16 cd16 ct16), sl16⟩)
    (c16 : PySem.W.codeIn K cd16 "nexts" = true)
    (k16 : PySem.W.keepIn K (.ref f16) = true)
    (a17 : PySem.W.nsIn K mainGlobals "reached" = some (some (.ref f17)))
    (l17 : K.lookup f17 = some ⟨oc17, od17, .func (PySem.W.fnOf "reached" "reached" (defArgs sReach) (defBody sReach) (defScope sReach) .none kV17 dc17 pm17 an17 cd17 ct17), sl17⟩)
    (c17 : PySem.W.codeIn K cd17 "reached" = true)
    (k17 : PySem.W.keepIn K (.ref f17) = true)
    (a18 : PySem.W.nsIn K mainGlobals "least_way" = some (some (.ref f18)))
    (l18 : K.lookup f18 = some ⟨oc18, od18, .func (PySem.W.fnOf "least_way" "least_way" (defArgs sLeast) (defBody sLeast) (defScope sLeast) .none kV18 dc18 pm18 an18 cd18 ct18), sl18⟩)
    (c18 : PySem.W.codeIn K cd18 "least_way" = true)
    (k18 : PySem.W.keepIn K (.ref f18) = true)
    (a19 : PySem.W.nsIn K mainGlobals "without" = some (some (.ref f19)))
    (l19 : K.lookup f19 = some ⟨oc19, od19, .func (PySem.W.fnOf "without" "without" (defArgs sWithout) (defBody sWithout) (defScope sWithout) .none kV19 dc19 pm19 an19 cd19 ct19), sl19⟩)
    (c19 : PySem.W.codeIn K cd19 "without" = true)
    (k19 : PySem.W.keepIn K (.ref f19) = true)
    (a20 : PySem.W.nsIn K mainGlobals "round_way" = some (some (.ref f20)))
    (l20 : K.lookup f20 = some ⟨oc20, od20, .func (PySem.W.fnOf "round_way" "round_way" (defArgs sRound) (defBody sRound) (defScope sRound) .none kV20 dc20 pm20 an20 cd20 ct20), sl20⟩)
    (c20 : PySem.W.codeIn K cd20 "round_way" = true)
    (k20 : PySem.W.keepIn K (.ref f20) = true)
    (a21 : PySem.W.nsIn K mainGlobals "law" = some (some (.ref f21)))
    (l21 : K.lookup f21 = some ⟨oc21, od21, .func (PySem.W.fnOf "law" "law" (defArgs sLaw) (defBody sLaw) (defScope sLaw) .none kV21 dc21 pm21 an21 cd21 ct21), sl21⟩)
    (c21 : PySem.W.codeIn K cd21 "law" = true)
    (k21 : PySem.W.keepIn K (.ref f21) = true)
    (aS : PySem.W.nsIn K mainGlobals "SlipError" = some (some (.ref CS)))
    (rd : PySem.W.readsIn K CS (.type "type") = true)
    (rga : PySem.W.specialIn K (.ref CS) "__getattribute__" = some (some (.builtin "type.__getattribute__")))
    (atS : PySem.W.findCls K (.ref CS) (.type "type") "__init__" = some (.val (.ref fS)))
    (lS : K.lookup fS = some ⟨ocS, odS, .func (PySem.W.fnOf "__init__" "SlipError.__init__" (defArgs sSlipI) (defBody sSlipI) (defScope sSlipI) (.ref TD) kVS dcS pmS anS cdS ctS), slS⟩)
    (lT : K.lookup TD = some ⟨ocT, odT, .seq #[.str "sliperror" tk1, .str "refused" tk2] nT, slT⟩)
    (cS : PySem.W.codeIn K cdS "SlipError.__init__" = true)
    (kS : PySem.W.keepIn K (.ref fS) = true)
    (vV : PySem.W.findCls K (.type "ValueError") (.type "type") "__init__" = some (.val (.builtin "ValueError.__init__")))
    (zV : PySem.W.nsIn K mainGlobals "ValueError" = some none)
    (aNoHouse : PySem.W.nsIn K mainGlobals "NoHouse" = some (some (.ref CNoHouse)))
    (xNoHouse : K.lookup CNoHouse = some (excClassObj nmNoHouse qnNoHouse CNoHouse NNoHouse bsNoHouse bmNoHouse true snNoHouse subNoHouse abNoHouse colNoHouse ddNoHouse p0NoHouse p1NoHouse p2NoHouse p3NoHouse p5NoHouse "ValueError.__new__"))
    (rNoHouse : PySem.HandSPX.refsVE bmNoHouse = true)
    (saNoHouse : PySem.W.findIn K (.ref CNoHouse) "__setattr__" = some (some (.builtin "object.__setattr__")))
    (exNoHouse : PySem.W.subIn K (.ref CNoHouse) (.type "BaseException") = some true)
    (tyNoHouse : PySem.W.typeIn K (.ref CNoHouse) = some (.type "type"))
    (kcNoHouse : PySem.W.keepIn K (.ref CNoHouse) = true)
    (gaNoHouse : PySem.W.findIn K (.ref CNoHouse) "__getattribute__" = some (some (.builtin "BaseException.__getattribute__")))
    (ggNoHouse : PySem.W.findIn K (.ref CNoHouse) "__getattr__" = some none)
    (hdNoHouse : PySem.W.hasDictIn K CNoHouse = true)
    (iNoHouse : PySem.W.findIn K (.ref CNoHouse) "__init__" = some (some (.ref fNoHouse)))
    (tiNoHouse : PySem.W.typeIn K (.ref fNoHouse) = some (.type "function"))
    (lNoHouse : K.lookup fNoHouse = some ⟨ocNoHouse, odNoHouse, .func (PySem.W.fnOf "__init__" "NoHouse.__init__" (defArgs sNoHouseI) (defBody sNoHouseI) (defScope sNoHouseI) .none kVNoHouse dcNoHouse pmNoHouse anNoHouse cdNoHouse ctNoHouse), slNoHouse⟩)
    (cNoHouse : PySem.W.codeIn K cdNoHouse "NoHouse.__init__" = true)
    (kfNoHouse : PySem.W.keepIn K (.ref fNoHouse) = true)
    (wNoHouse : PySem.W.findIn K (.ref CNoHouse) "word" = some none)
    (flNoHousehouse : PySem.W.findIn K (.ref CNoHouse) "house" = some none)
    (icNoHouse : PySem.W.isClsIn K CNoHouse = true)
    (aNoTie : PySem.W.nsIn K mainGlobals "NoTie" = some (some (.ref CNoTie)))
    (xNoTie : K.lookup CNoTie = some (excClassObj nmNoTie qnNoTie CNoTie NNoTie bsNoTie bmNoTie true snNoTie subNoTie abNoTie colNoTie ddNoTie p0NoTie p1NoTie p2NoTie p3NoTie p5NoTie "ValueError.__new__"))
    (rNoTie : PySem.HandSPX.refsVE bmNoTie = true)
    (saNoTie : PySem.W.findIn K (.ref CNoTie) "__setattr__" = some (some (.builtin "object.__setattr__")))
    (exNoTie : PySem.W.subIn K (.ref CNoTie) (.type "BaseException") = some true)
    (tyNoTie : PySem.W.typeIn K (.ref CNoTie) = some (.type "type"))
    (kcNoTie : PySem.W.keepIn K (.ref CNoTie) = true)
    (gaNoTie : PySem.W.findIn K (.ref CNoTie) "__getattribute__" = some (some (.builtin "BaseException.__getattribute__")))
    (ggNoTie : PySem.W.findIn K (.ref CNoTie) "__getattr__" = some none)
    (hdNoTie : PySem.W.hasDictIn K CNoTie = true)
    (iNoTie : PySem.W.findIn K (.ref CNoTie) "__init__" = some (some (.ref fNoTie)))
    (tiNoTie : PySem.W.typeIn K (.ref fNoTie) = some (.type "function"))
    (lNoTie : K.lookup fNoTie = some ⟨ocNoTie, odNoTie, .func (PySem.W.fnOf "__init__" "NoTie.__init__" (defArgs sNoTieI) (defBody sNoTieI) (defScope sNoTieI) .none kVNoTie dcNoTie pmNoTie anNoTie cdNoTie ctNoTie), slNoTie⟩)
    (cNoTie : PySem.W.codeIn K cdNoTie "NoTie.__init__" = true)
    (kfNoTie : PySem.W.keepIn K (.ref fNoTie) = true)
    (wNoTie : PySem.W.findIn K (.ref CNoTie) "word" = some none)
    (flNoTieone : PySem.W.findIn K (.ref CNoTie) "one" = some none)
    (flNoTieother : PySem.W.findIn K (.ref CNoTie) "other" = some none)
    (icNoTie : PySem.W.isClsIn K CNoTie = true)
    (aNoWay : PySem.W.nsIn K mainGlobals "NoWay" = some (some (.ref CNoWay)))
    (xNoWay : K.lookup CNoWay = some (excClassObj nmNoWay qnNoWay CNoWay NNoWay bsNoWay bmNoWay true snNoWay subNoWay abNoWay colNoWay ddNoWay p0NoWay p1NoWay p2NoWay p3NoWay p5NoWay "ValueError.__new__"))
    (rNoWay : PySem.HandSPX.refsVE bmNoWay = true)
    (saNoWay : PySem.W.findIn K (.ref CNoWay) "__setattr__" = some (some (.builtin "object.__setattr__")))
    (exNoWay : PySem.W.subIn K (.ref CNoWay) (.type "BaseException") = some true)
    (tyNoWay : PySem.W.typeIn K (.ref CNoWay) = some (.type "type"))
    (kcNoWay : PySem.W.keepIn K (.ref CNoWay) = true)
    (gaNoWay : PySem.W.findIn K (.ref CNoWay) "__getattribute__" = some (some (.builtin "BaseException.__getattribute__")))
    (ggNoWay : PySem.W.findIn K (.ref CNoWay) "__getattr__" = some none)
    (hdNoWay : PySem.W.hasDictIn K CNoWay = true)
    (iNoWay : PySem.W.findIn K (.ref CNoWay) "__init__" = some (some (.ref fNoWay)))
    (tiNoWay : PySem.W.typeIn K (.ref fNoWay) = some (.type "function"))
    (lNoWay : K.lookup fNoWay = some ⟨ocNoWay, odNoWay, .func (PySem.W.fnOf "__init__" "NoWay.__init__" (defArgs sNoWayI) (defBody sNoWayI) (defScope sNoWayI) .none kVNoWay dcNoWay pmNoWay anNoWay cdNoWay ctNoWay), slNoWay⟩)
    (cNoWay : PySem.W.codeIn K cdNoWay "NoWay.__init__" = true)
    (kfNoWay : PySem.W.keepIn K (.ref fNoWay) = true)
    (wNoWay : PySem.W.findIn K (.ref CNoWay) "word" = some none)
    (flNoWaylot : PySem.W.findIn K (.ref CNoWay) "lot" = some none)
    (icNoWay : PySem.W.isClsIn K CNoWay = true)
    (aLone : PySem.W.nsIn K mainGlobals "Lone" = some (some (.ref CLone)))
    (xLone : K.lookup CLone = some (excClassObj nmLone qnLone CLone NLone bsLone bmLone true snLone subLone abLone colLone ddLone p0Lone p1Lone p2Lone p3Lone p5Lone "ValueError.__new__"))
    (rLone : PySem.HandSPX.refsVE bmLone = true)
    (saLone : PySem.W.findIn K (.ref CLone) "__setattr__" = some (some (.builtin "object.__setattr__")))
    (exLone : PySem.W.subIn K (.ref CLone) (.type "BaseException") = some true)
    (tyLone : PySem.W.typeIn K (.ref CLone) = some (.type "type"))
    (kcLone : PySem.W.keepIn K (.ref CLone) = true)
    (gaLone : PySem.W.findIn K (.ref CLone) "__getattribute__" = some (some (.builtin "BaseException.__getattribute__")))
    (ggLone : PySem.W.findIn K (.ref CLone) "__getattr__" = some none)
    (hdLone : PySem.W.hasDictIn K CLone = true)
    (iLone : PySem.W.findIn K (.ref CLone) "__init__" = some (some (.ref fLone)))
    (tiLone : PySem.W.typeIn K (.ref fLone) = some (.type "function"))
    (lLone : K.lookup fLone = some ⟨ocLone, odLone, .func (PySem.W.fnOf "__init__" "Lone.__init__" (defArgs sLoneI) (defBody sLoneI) (defScope sLoneI) .none kVLone dcLone pmLone anLone cdLone ctLone), slLone⟩)
    (cLone : PySem.W.codeIn K cdLone "Lone.__init__" = true)
    (kfLone : PySem.W.keepIn K (.ref fLone) = true)
    (wLone : PySem.W.findIn K (.ref CLone) "word" = some none)
    (flLonelot : PySem.W.findIn K (.ref CLone) "lot" = some none)
    (icLone : PySem.W.isClsIn K CLone = true)
    (suNoHouseNoHouse : PySem.W.subIn K (.ref CNoHouse) (.ref CNoHouse) = some true)
    (suNoTieNoHouse : PySem.W.subIn K (.ref CNoTie) (.ref CNoHouse) = some false)
    (suNoTieNoTie : PySem.W.subIn K (.ref CNoTie) (.ref CNoTie) = some true)
    (suLoneNoHouse : PySem.W.subIn K (.ref CLone) (.ref CNoHouse) = some false)
    (suLoneNoTie : PySem.W.subIn K (.ref CLone) (.ref CNoTie) = some false)
    (suLoneLone : PySem.W.subIn K (.ref CLone) (.ref CLone) = some true)
    (suNoWayNoWay : PySem.W.subIn K (.ref CNoWay) (.ref CNoWay) = some true)
    (zlen : PySem.W.nsIn K mainGlobals "len" = some none)
    (zrange : PySem.W.nsIn K mainGlobals "range" = some none)
    (zlist : PySem.W.nsIn K mainGlobals "list" = some none)
    (ztuple : PySem.W.nsIn K mainGlobals "tuple" = some none)
    (zisinstance : PySem.W.nsIn K mainGlobals "isinstance" = some none)
    (zbool : PySem.W.nsIn K mainGlobals "bool" = some none)
    (zint : PySem.W.nsIn K mainGlobals "int" = some none)
    (zstr : PySem.W.nsIn K mainGlobals "str" = some none)
    (zall : PySem.W.nsIn K mainGlobals "all" = some none)
    (zzip : PySem.W.nsIn K mainGlobals "zip" = some none)
    (zsum : PySem.W.nsIn K mainGlobals "sum" = some none)
    (zmin : PySem.W.nsIn K mainGlobals "min" = some none)
    (zsorted : PySem.W.nsIn K mainGlobals "sorted" = some none)
    (zabs : PySem.W.nsIn K mainGlobals "abs" = some none)
    (zenumerate : PySem.W.nsIn K mainGlobals "enumerate" = some none)
    : ∃ fd : FuncData, (∀ (s : Shared) (v : Value), BindsTo s fd ⟨[v], []⟩ [("_law_script", v)]) ∧ ∀ base : Heap, K.In base → base.Ns mainGlobals mg → FnOk l.prog w K mg base CX0 15 fa fd ["_law_script"] (spLaw K) := by
  have e := hfa.symm.trans (PySem.W.mg_of X G a21)
  cases e
  have T : BT mg := ⟨PySem.W.mg_none_of X G zlen, PySem.W.mg_none_of X G zrange, PySem.W.mg_none_of X G zlist, PySem.W.mg_none_of X G ztuple, PySem.W.mg_none_of X G zisinstance, PySem.W.mg_none_of X G zbool, PySem.W.mg_none_of X G zint, PySem.W.mg_none_of X G zstr, PySem.W.mg_none_of X G zall, PySem.W.mg_none_of X G zzip, PySem.W.mg_none_of X G zsum, PySem.W.mg_none_of X G zmin, PySem.W.mg_none_of X G zsorted, PySem.W.mg_none_of X G zabs, PySem.W.mg_none_of X G zenumerate⟩
  have F_law_box := fun_mk (st := sBox) l0 c0 k0
  have g_law_box := PySem.W.mg_of X G a0
  have b_law_box := F_law_box.binds (ps := ["_law_script"]) fun _ _ _ _ _ _ us hl => match us, hl with | [_], _ => rfl
  have F_law_take := fun_mk (st := sTake) l1 c1 k1
  have g_law_take := PySem.W.mg_of X G a1
  have b_law_take := F_law_take.binds (ps := ["_law_box_here", "_law_sides"]) fun _ _ _ _ _ _ us hl => match us, hl with | [_, _], _ => rfl
  have F_law_same := fun_mk (st := sSame) l2 c2 k2
  have g_law_same := PySem.W.mg_of X G a2
  have b_law_same := F_law_same.binds (ps := ["_law_found", "_law_due"]) fun _ _ _ _ _ _ us hl => match us, hl with | [_, _], _ => rfl
  have F_law_pairs := fun_mk (st := sPairs) l3 c3 k3
  have g_law_pairs := PySem.W.mg_of X G a3
  have b_law_pairs := F_law_pairs.binds (ps := ["_law_many"]) fun _ _ _ _ _ _ us hl => match us, hl with | [_], _ => rfl
  have F_law_shuffled := fun_mk (st := sShuf) l4 c4 k4
  have g_law_shuffled := PySem.W.mg_of X G a4
  have b_law_shuffled := F_law_shuffled.binds (ps := ["_law_box_here", "_law_some"]) fun _ _ _ _ _ _ us hl => match us, hl with | [_, _], _ => rfl
  have F_law_some_ties := fun_mk (st := sSome) l5 c5 k5
  have g_law_some_ties := PySem.W.mg_of X G a5
  have b_law_some_ties := F_law_some_ties.binds (ps := ["_law_box_here", "_law_many", "_law_odds"]) fun _ _ _ _ _ _ us hl => match us, hl with | [_, _, _], _ => rfl
  have F_law_far := fun_mk (st := sLFar) l6 c6 k6
  have g_law_far := PySem.W.mg_of X G a6
  have b_law_far := F_law_far.binds (ps := ["_law_many", "_law_ties", "_law_goal"]) fun _ _ _ _ _ _ us hl => match us, hl with | [_, _, _], _ => rfl
  have F_law_next := fun_mk (st := sLNext) l7 c7 k7
  have g_law_next := PySem.W.mg_of X G a7
  have b_law_next := F_law_next.binds (ps := ["_law_many", "_law_ties", "_law_house", "_law_goal"]) fun _ _ _ _ _ _ us hl => match us, hl with | [_, _, _, _], _ => rfl
  have F_law_lot := fun_mk (st := sLLot) l8 c8 k8
  have g_law_lot := PySem.W.mg_of X G a8
  have b_law_lot := F_law_lot.binds (ps := ["_law_many", "_law_ties", "_law_start"]) fun _ _ _ _ _ _ us hl => match us, hl with | [_, _, _], _ => rfl
  have F_law_least := fun_mk (st := sLLeast) l9 c9 k9
  have g_law_least := PySem.W.mg_of X G a9
  have b_law_least := F_law_least.binds (ps := ["_law_many", "_law_ties", "_law_start", "_law_goal"]) fun _ _ _ _ _ _ us hl => match us, hl with | [_, _, _, _], _ => rfl
  have F_law_tried := fun_mk (st := sTried) l10 c10 k10
  have g_law_tried := PySem.W.mg_of X G a10
  have b_law_tried := F_law_tried.binds (ps := ["_law_many", "_law_ties", "_law_one", "_law_other"]) fun _ _ _ _ _ _ us hl => match us, hl with | [_, _, _, _], _ => rfl
  have Fcheck_house := fun_mk (st := sCheck) l11 c11 k11
  have gcheck_house := PySem.W.mg_of X G a11
  have bcheck_house := Fcheck_house.binds (ps := ["many", "house"]) fun _ _ _ _ _ _ us hl => match us, hl with | [_, _], _ => rfl
  have Fcheapen := fun_mk (st := sCheap) l12 c12 k12
  have gcheapen := PySem.W.mg_of X G a12
  have bcheapen := Fcheapen.binds (ps := ["prices", "house", "near", "price"]) fun _ _ _ _ _ _ us hl => match us, hl with | [_, _, _, _], _ => rfl
  have Ffar := fun_mk (st := sFar) l13 c13 k13
  have gfar := PySem.W.mg_of X G a13
  have bfar := Ffar.binds (ps := ["many", "ties", "goal"]) fun _ _ _ _ _ _ us hl => match us, hl with | [_, _, _], _ => rfl
  have Fneighbours := fun_mk (st := sNbr) l14 c14 k14
  have gneighbours := PySem.W.mg_of X G a14
  have bneighbours := Fneighbours.binds (ps := ["ties", "house"]) fun _ _ _ _ _ _ us hl => match us, hl with | [_, _], _ => rfl
  have Fnext_house := fun_mk (st := sNextH) l15 c15 k15
  have gnext_house := PySem.W.mg_of X G a15
  have bnext_house := Fnext_house.binds (ps := ["prices", "ties", "goal", "house"]) fun _ _ _ _ _ _ us hl => match us, hl with | [_, _, _, _], _ => rfl
  have Fnexts := fun_mk (st := sNexts) l16 c16 k16
  have gnexts := PySem.W.mg_of X G a16
  have bnexts := Fnexts.binds (ps := ["many", "ties", "goal"]) fun _ _ _ _ _ _ us hl => match us, hl with | [_, _, _], _ => rfl
  have Freached := fun_mk (st := sReach) l17 c17 k17
  have greached := PySem.W.mg_of X G a17
  have breached := Freached.binds (ps := ["many", "ties", "start"]) fun _ _ _ _ _ _ us hl => match us, hl with | [_, _, _], _ => rfl
  have Fleast_way := fun_mk (st := sLeast) l18 c18 k18
  have gleast_way := PySem.W.mg_of X G a18
  have bleast_way := Fleast_way.binds (ps := ["many", "ties", "start", "goal"]) fun _ _ _ _ _ _ us hl => match us, hl with | [_, _, _, _], _ => rfl
  have Fwithout := fun_mk (st := sWithout) l19 c19 k19
  have gwithout := PySem.W.mg_of X G a19
  have bwithout := Fwithout.binds (ps := ["ties", "one", "other"]) fun _ _ _ _ _ _ us hl => match us, hl with | [_, _, _], _ => rfl
  have Fround_way := fun_mk (st := sRound) l20 c20 k20
  have ground_way := PySem.W.mg_of X G a20
  have bround_way := Fround_way.binds (ps := ["many", "ties", "one", "other"]) fun _ _ _ _ _ _ us hl => match us, hl with | [_, _, _, _], _ => rfl
  have Flaw := fun_mk (st := sLaw) l21 c21 k21
  have glaw := PySem.W.mg_of X G a21
  have blaw := Flaw.binds (ps := ["_law_script"]) fun _ _ _ _ _ _ us hl => match us, hl with | [_], _ => rfl
  have FS : FunD K "__init__" "SlipError.__init__" (defArgs sSlipI) (defBody sSlipI) (defScope sSlipI) [.str "sliperror", .str "refused"] [] fS _ := ⟨⟨_, _, _, _, _, _, _, _, _, _, rfl, lS, cS, .inr ⟨fun z => (by cases z), TD, _, [.str "sliperror" tk1, .str "refused" tk2], nT, rfl, lT, rfl, .cons ⟨_, rfl⟩ (.cons ⟨_, rfl⟩ .nil)⟩, .inl rfl⟩, kS⟩
  have bS : Binds K (PySem.W.fnOf "__init__" "SlipError.__init__" (defArgs sSlipI) (defBody sSlipI) (defScope sSlipI) (.ref TD) kVS dcS pmS anS cdS ctS) ["self", "word", "why"] [] := by
    obtain ⟨ds, hd, hb⟩ := FS.binds1 (ps := ["self", "word", "why"]) 3 2 (fun z => by cases z) rfl (fun T kV doc pm an cdv ct us its hu hi => match us, hu, its, hi with | [_, _, _], _, [_, _], _ => ⟨_, rfl, rfl⟩)
    cases hd
    exact hb
  have TS : SlipT K mg CS fS := ⟨PySem.W.mg_of X G aS, ⟨rd, rga⟩, atS, kS, vV, PySem.W.mg_none_of X G zV⟩
  have FNoHouse := fun_mk (st := sNoHouseI) lNoHouse cNoHouse kfNoHouse
  have bNoHouse := FNoHouse.binds (ps := ["self", "house"]) fun _ _ _ _ _ _ us hl => match us, hl with | [_, _], _ => rfl
  have TNoHouse : ExcT K mg "NoHouse" CNoHouse fNoHouse := ⟨PySem.W.mg_of X G aNoHouse, ⟨⟨_, _, _, _, _, _, _, _, _, _, _, _, _, _, _, xNoHouse, rNoHouse⟩, saNoHouse, exNoHouse, tyNoHouse, kcNoHouse⟩, ⟨gaNoHouse, ggNoHouse, exNoHouse, hdNoHouse⟩, iNoHouse, tiNoHouse, wNoHouse⟩
  have FNoTie := fun_mk (st := sNoTieI) lNoTie cNoTie kfNoTie
  have bNoTie := FNoTie.binds (ps := ["self", "one", "other"]) fun _ _ _ _ _ _ us hl => match us, hl with | [_, _, _], _ => rfl
  have TNoTie : ExcT K mg "NoTie" CNoTie fNoTie := ⟨PySem.W.mg_of X G aNoTie, ⟨⟨_, _, _, _, _, _, _, _, _, _, _, _, _, _, _, xNoTie, rNoTie⟩, saNoTie, exNoTie, tyNoTie, kcNoTie⟩, ⟨gaNoTie, ggNoTie, exNoTie, hdNoTie⟩, iNoTie, tiNoTie, wNoTie⟩
  have FNoWay := fun_mk (st := sNoWayI) lNoWay cNoWay kfNoWay
  have bNoWay := FNoWay.binds (ps := ["self", "lot"]) fun _ _ _ _ _ _ us hl => match us, hl with | [_, _], _ => rfl
  have TNoWay : ExcT K mg "NoWay" CNoWay fNoWay := ⟨PySem.W.mg_of X G aNoWay, ⟨⟨_, _, _, _, _, _, _, _, _, _, _, _, _, _, _, xNoWay, rNoWay⟩, saNoWay, exNoWay, tyNoWay, kcNoWay⟩, ⟨gaNoWay, ggNoWay, exNoWay, hdNoWay⟩, iNoWay, tiNoWay, wNoWay⟩
  have FLone := fun_mk (st := sLoneI) lLone cLone kfLone
  have bLone := FLone.binds (ps := ["self", "lot"]) fun _ _ _ _ _ _ us hl => match us, hl with | [_, _], _ => rfl
  have TLone : ExcT K mg "Lone" CLone fLone := ⟨PySem.W.mg_of X G aLone, ⟨⟨_, _, _, _, _, _, _, _, _, _, _, _, _, _, _, xLone, rLone⟩, saLone, exLone, tyLone, kcLone⟩, ⟨gaLone, ggLone, exLone, hdLone⟩, iLone, tiLone, wLone⟩
  have emNoHouseNoHouse : PySem.W.exmOne K (.ref CNoHouse) (.ref CNoHouse) = some true := exm_pair exNoHouse icNoHouse tyNoHouse suNoHouseNoHouse
  have emNoTieNoHouse : PySem.W.exmOne K (.ref CNoTie) (.ref CNoHouse) = some false := exm_pair exNoHouse icNoHouse tyNoHouse suNoTieNoHouse
  have emNoTieNoTie : PySem.W.exmOne K (.ref CNoTie) (.ref CNoTie) = some true := exm_pair exNoTie icNoTie tyNoTie suNoTieNoTie
  have emLoneNoHouse : PySem.W.exmOne K (.ref CLone) (.ref CNoHouse) = some false := exm_pair exNoHouse icNoHouse tyNoHouse suLoneNoHouse
  have emLoneNoTie : PySem.W.exmOne K (.ref CLone) (.ref CNoTie) = some false := exm_pair exNoTie icNoTie tyNoTie suLoneNoTie
  have emLoneLone : PySem.W.exmOne K (.ref CLone) (.ref CLone) = some true := exm_pair exLone icLone tyLone suLoneLone
  have emNoWayNoWay : PySem.W.exmOne K (.ref CNoWay) (.ref CNoWay) = some true := exm_pair exNoWay icNoWay tyNoWay suNoWayNoWay
  refine ⟨PySem.W.fnOf "law" "law" (defArgs sLaw) (defBody sLaw) (defScope sLaw) .none kV21 dc21 pm21 an21 cd21 ct21, fun s v => .of_eq rfl, fun base _ _ => ?_⟩
  have GS : ∀ j, FnOk l.prog w K mg base CX0 (j + 1) fS _ ["self", "word", "why"] (spSlip K) := fun j => ok_slipI (k := j) FS TS
  have GH := ok_slipIH (P := l.prog) (w := w) (base := base) (k := 9) FS TS
  have XH : ∀ j, ExcC l.prog w K mg base (j + 2) "NoHouse" CNoHouse fNoHouse _ ["self", "house"] (spIn1 K "house" "nohouse" askInt gotSame) := fun j => ⟨TNoHouse, ok_nohouseI (k := j) FNoHouse TS (GS j) bS, bNoHouse⟩
  have XW : ExcC l.prog w K mg base 10 "NoWay" CNoWay fNoWay _ ["self", "lot"] (spIn1 K "lot" "noway" (askLot K) gotLot) := ⟨TNoWay, ok_nowayI (k := 8) FNoWay TS (GS 8) bS T.list, bNoWay⟩
  have XT : ExcC l.prog w K mg base 11 "NoTie" CNoTie fNoTie _ ["self", "one", "other"] (spIn2 K "one" "other" "notie") := ⟨TNoTie, ok_notieI (k := 9) FNoTie TS (GS 9) bS, bNoTie⟩
  have XL : ExcH l.prog w K mg base 11 "Lone" CLone fLone _ ["self", "lot"] (spIn1 K "lot" "lone" (askLot K) gotLot) := ⟨TLone, ok_loneIH (k := 9) FLone TS GH bS T.list, bLone⟩
  have cC : ∀ j, CalN l.prog w K mg base (j + 4) "check_house" _ _ ["many", "house"] (spCheckX CNoHouse) := fun j => ⟨ok_checkN (k := j) Fcheck_house (XH j) flNoHousehouse, gcheck_house, k11, bcheck_house⟩
  have cN : Cal l.prog w K mg base 11 "nexts" _ _ ["many", "ties", "goal"] spNexts := ⟨ok_nexts (k := 8) Fnexts T ⟨ok_far (k := 8) Ffar Fcheck_house Fcheapen gcheck_house gcheapen T.range bcheck_house bcheapen, gfar, k13, bfar⟩ ⟨ok_nexth (k := 8) Fnext_house T ⟨ok_nbr (k := 8) Fneighbours, gneighbours, k14, bneighbours⟩, gnext_house, k15, bnext_house⟩, gnexts, k16, bnexts⟩
  have cR : Cal l.prog w K mg base 11 "reached" _ _ ["many", "ties", "start"] spReach := ⟨ok_reach (k := 8) Freached T ⟨ok_far (k := 8) Ffar Fcheck_house Fcheapen gcheck_house gcheapen T.range bcheck_house bcheapen, gfar, k13, bfar⟩, greached, k17, breached⟩
  have cL : CalN l.prog w K mg base 12 "least_way" _ _ ["many", "ties", "start", "goal"] (spLeastX CNoHouse CNoWay) := ⟨ok_leastN (k := 6) Fleast_way T (cC 7) ⟨ok_far (k := 9) Ffar Fcheck_house Fcheapen gcheck_house gcheapen T.range bcheck_house bcheapen, gfar, k13, bfar⟩ cN cR XW flNoWaylot, gleast_way, k18, bleast_way⟩
  have cU : CalX l.prog w K mg base 13 "round_way" _ _ ["many", "ties", "one", "other"] (spRoundX CNoHouse CNoTie CLone) := ⟨ok_round (k := 6) Fround_way (cC 8).x cL ⟨ok_without (k := 11) Fwithout, gwithout, k19, bwithout⟩ XT XL TNoWay flNoTieone flNoTieother flNoWaylot flLonelot emNoWayNoWay, ground_way, k20, bround_way⟩
  exact ok_law Flaw T ⟨ok_box (k := 13) F_law_box T.list, g_law_box, k0, b_law_box⟩ ⟨ok_take (k := 13) F_law_take T.len, g_law_take, k1, b_law_take⟩
    ⟨ok_same F_law_same ⟨T.isinstance, T.list, T.tuple, T.bool, T.int, T.str, T.len, T.all, T.zip⟩ g_law_same b_law_same 14, g_law_same, k2, b_law_same⟩
    ⟨ok_shuf (k := 12) F_law_shuffled F_law_take g_law_take b_law_take T.len, g_law_shuffled, k4, b_law_shuffled⟩
    ⟨ok_some (k := 12) F_law_some_ties F_law_take g_law_take b_law_take F_law_pairs g_law_pairs b_law_pairs T.len T.sum T.range, g_law_some_ties, k5, b_law_some_ties⟩
    ⟨ok_lleast (k := 11) F_law_least T ⟨ok_lfar (k := 12) F_law_far T.range, g_law_far, k6, b_law_far⟩ ⟨ok_lnext (k := 11) F_law_next T ⟨ok_lfar (k := 11) F_law_far T.range, g_law_far, k6, b_law_far⟩, g_law_next, k7, b_law_next⟩, g_law_least, k9, b_law_least⟩
    ⟨ok_llot (k := 12) F_law_lot T ⟨ok_lfar (k := 12) F_law_far T.range, g_law_far, k6, b_law_far⟩, g_law_lot, k8, b_law_lot⟩
    ⟨ok_triedR (k := 12) F_law_tried cU TNoHouse TNoTie TLone flNoHousehouse flNoTieone flNoTieother flLonelot emNoHouseNoHouse emNoTieNoHouse emNoTieNoTie emLoneNoHouse emLoneNoTie emLoneLone, g_law_tried, k10, b_law_tried⟩
theorem walk {l : PySem.W.OpenLaw} {q : Program} {loose : List Str} {XP : (Str → Option Value) → Heap → Prop} {YP : World → Heap → Prop} {d : DefRec} {K : Params → PySem.W.Frag} (hn : l.most = some 63) (hdf : d.params.defaults = [])
    (hY : ∀ (w : World) (h : Heap), YP w h → (K w.params).In h)
    (F : ∀ (w : World) (mg : Str → Option Value) (fa : Addr) (h : Heap), (K w.params).In h → h.Ns mainGlobals mg → mg d.name = some (.ref fa) →
      ∃ fd : FuncData, (∀ (s : Shared) (u : Value), BindsTo s fd ⟨[u], []⟩ [("_law_script", u)]) ∧ ∀ base : Heap, (K w.params).In base → base.Ns mainGlobals mg → FnOk l.prog w (K w.params) mg base CX0 15 fa fd ["_law_script"] (spLaw (K w.params))) :
    PySem.W.WalkO q loose XP YP l.row.toRowW d [] (fun f vs => PySem.call f vs) :=
  L2.walk_of (n := 63) (k := 15) (x := "_law_script") (CX := fun _ => CX0) (sp := fun w => spLaw (K w.params)) hn (by decide) hdf ⟨rfl, by decide, by decide⟩ hY F (fun _ _ a ns hl _ hS => ⟨a, ns, rfl, hS, hl, fun _ => rfl⟩) fun _ _ _ _ _ z => z
end K
open PySem PySem.W PyProof.Rows
set_option maxRecDepth 100000 in
set_option maxHeartbeats 0 in
theorem PySem.Challenge.cw_swapslip_k06_ways_round_ties_holds : PySem.Challenge.rw_swapslip_k06_ways_round_ties.Holds := by
  w_on; o_law; k_head; (case hw => w_witness2)
  k_fill
  refine K.walk (l := PySem.Challenge.rw_swapslip_k06_ways_round_ties) rfl rfl (fun w h Y => PySem.W.kIn_of Y) ?F
  case F =>
    intro w mg fa h KX G hmg
    refine' K.all_mk KX G hmg ?a0 ?l0 ?c0 ?k0 ?a1 ?l1 ?c1 ?k1 ?a2 ?l2 ?c2 ?k2 ?a3 ?l3 ?c3 ?k3 ?a4 ?l4 ?c4 ?k4 ?a5 ?l5 ?c5 ?k5 ?a6 ?l6 ?c6 ?k6 ?a7 ?l7 ?c7 ?k7 ?a8 ?l8 ?c8 ?k8 ?a9 ?l9 ?c9 ?k9 ?a10 ?l10 ?c10 ?k10 ?a11 ?l11 ?c11 ?k11 ?a12 ?l12 ?c12 ?k12 ?a13 ?l13 ?c13 ?k13 ?a14 ?l14 ?c14 ?k14 ?a15 ?l15 ?c15 ?k15 ?a16 ?l16 ?c16 ?k16 ?a17 ?l17 ?c17 ?k17 ?a18 ?l18 ?c18 ?k18 ?a19 ?l19 ?c19 ?k19 ?a20 ?l20 ?c20 ?k20 ?a21 ?l21 ?c21 ?k21 ?aS ?rd ?rga ?atS ?lS ?lT ?cS ?kS ?vV ?zV ?aNoHouse ?xNoHouse ?rNoHouse ?saNoHouse ?exNoHouse ?tyNoHouse ?kcNoHouse ?gaNoHouse ?ggNoHouse ?hdNoHouse ?iNoHouse ?tiNoHouse ?lNoHouse ?cNoHouse ?kfNoHouse ?wNoHouse ?flNoHousehouse ?icNoHouse ?aNoTie ?xNoTie ?rNoTie ?saNoTie ?exNoTie ?tyNoTie ?kcNoTie ?gaNoTie ?ggNoTie ?hdNoTie ?iNoTie ?tiNoTie ?lNoTie ?cNoTie ?kfNoTie ?wNoTie ?flNoTieone ?flNoTieother ?icNoTie ?aNoWay ?xNoWay ?rNoWay ?saNoWay ?exNoWay ?tyNoWay ?kcNoWay ?gaNoWay ?ggNoWay ?hdNoWay ?iNoWay ?tiNoWay ?lNoWay ?cNoWay ?kfNoWay ?wNoWay ?flNoWaylot ?icNoWay ?aLone ?xLone ?rLone ?saLone ?exLone ?tyLone ?kcLone ?gaLone ?ggLone ?hdLone ?iLone ?tiLone ?lLone ?cLone ?kfLone ?wLone ?flLonelot ?icLone ?suNoHouseNoHouse ?suNoTieNoHouse ?suNoTieNoTie ?suLoneNoHouse ?suLoneNoTie ?suLoneLone ?suNoWayNoWay ?zlen ?zrange ?zlist ?ztuple ?zisinstance ?zbool ?zint ?zstr ?zall ?zzip ?zsum ?zmin ?zsorted ?zabs ?zenumerate
    (case a0 => k_is)
    (case l0 => k_is)
    (case c0 => k_is)
    (case k0 => k_is)
    (case a1 => k_is)
    (case l1 => k_is)
    (case c1 => k_is)
    (case k1 => k_is)
    (case a2 => k_is)
    (case l2 => k_is)
    (case c2 => k_is)
    (case k2 => k_is)
    (case a3 => k_is)
    (case l3 => k_is)
    (case c3 => k_is)
    (case k3 => k_is)
    (case a4 => k_is)
    (case l4 => k_is)
    (case c4 => k_is)
    (case k4 => k_is)
    (case a5 => k_is)
    (case l5 => k_is)
    (case c5 => k_is)
    (case k5 => k_is)
    (case a6 => k_is)
    (case l6 => k_is)
    (case c6 => k_is)
    (case k6 => k_is)
    (case a7 => k_is)
    (case l7 => k_is)
    (case c7 => k_is)
    (case k7 => k_is)
    (case a8 => k_is)
    (case l8 => k_is)
    (case c8 => k_is)
    (case k8 => k_is)
    (case a9 => k_is)
    (case l9 => k_is)
    (case c9 => k_is)
    (case k9 => k_is)
    (case a10 => k_is)
    (case l10 => k_is)
    (case c10 => k_is)
    (case k10 => k_is)
    (case a11 => k_is)
    (case l11 => k_is)
    (case c11 => k_is)
    (case k11 => k_is)
    (case a12 => k_is)
    (case l12 => k_is)
    (case c12 => k_is)
    (case k12 => k_is)
    (case a13 => k_is)
    (case l13 => k_is)
    (case c13 => k_is)
    (case k13 => k_is)
    (case a14 => k_is)
    (case l14 => k_is)
    (case c14 => k_is)
    (case k14 => k_is)
    (case a15 => k_is)
    (case l15 => k_is)
    (case c15 => k_is)
    (case k15 => k_is)
    (case a16 => k_is)
    (case l16 => k_is)
    (case c16 => k_is)
    (case k16 => k_is)
    (case a17 => k_is)
    (case l17 => k_is)
    (case c17 => k_is)
    (case k17 => k_is)
    (case a18 => k_is)
    (case l18 => k_is)
    (case c18 => k_is)
    (case k18 => k_is)
    (case a19 => k_is)
    (case l19 => k_is)
    (case c19 => k_is)
    (case k19 => k_is)
    (case a20 => k_is)
    (case l20 => k_is)
    (case c20 => k_is)
    (case k20 => k_is)
    (case a21 => k_is)
    (case l21 => k_is)
    (case c21 => k_is)
    (case k21 => k_is)
    (case aS => k_is)
    (case rd => k_is)
    (case rga => k_is)
    (case atS => k_is)
    (case lS => k_is)
    (case lT => k_is)
    (case cS => k_is)
    (case kS => k_is)
    (case vV => k_is)
    (case zV => k_is)
    (case aNoHouse => k_is)
    (case xNoHouse => k_is)
    (case rNoHouse => first | rfl | decide +kernel)
    (case saNoHouse => k_is)
    (case exNoHouse => k_is)
    (case tyNoHouse => k_is)
    (case kcNoHouse => k_is)
    (case gaNoHouse => k_is)
    (case ggNoHouse => k_is)
    (case hdNoHouse => k_is)
    (case iNoHouse => k_is)
    (case tiNoHouse => k_is)
    (case lNoHouse => k_is)
    (case cNoHouse => k_is)
    (case kfNoHouse => k_is)
    (case wNoHouse => k_is)
    (case flNoHousehouse => k_is)
    (case icNoHouse => k_is)
    (case aNoTie => k_is)
    (case xNoTie => k_is)
    (case rNoTie => first | rfl | decide +kernel)
    (case saNoTie => k_is)
    (case exNoTie => k_is)
    (case tyNoTie => k_is)
    (case kcNoTie => k_is)
    (case gaNoTie => k_is)
    (case ggNoTie => k_is)
    (case hdNoTie => k_is)
    (case iNoTie => k_is)
    (case tiNoTie => k_is)
    (case lNoTie => k_is)
    (case cNoTie => k_is)
    (case kfNoTie => k_is)
    (case wNoTie => k_is)
    (case flNoTieone => k_is)
    (case flNoTieother => k_is)
    (case icNoTie => k_is)
    (case aNoWay => k_is)
    (case xNoWay => k_is)
    (case rNoWay => first | rfl | decide +kernel)
    (case saNoWay => k_is)
    (case exNoWay => k_is)
    (case tyNoWay => k_is)
    (case kcNoWay => k_is)
    (case gaNoWay => k_is)
    (case ggNoWay => k_is)
    (case hdNoWay => k_is)
    (case iNoWay => k_is)
    (case tiNoWay => k_is)
    (case lNoWay => k_is)
    (case cNoWay => k_is)
    (case kfNoWay => k_is)
    (case wNoWay => k_is)
    (case flNoWaylot => k_is)
    (case icNoWay => k_is)
    (case aLone => k_is)
    (case xLone => k_is)
    (case rLone => first | rfl | decide +kernel)
    (case saLone => k_is)
    (case exLone => k_is)
    (case tyLone => k_is)
    (case kcLone => k_is)
    (case gaLone => k_is)
    (case ggLone => k_is)
    (case hdLone => k_is)
    (case iLone => k_is)
    (case tiLone => k_is)
    (case lLone => k_is)
    (case cLone => k_is)
    (case kfLone => k_is)
    (case wLone => k_is)
    (case flLonelot => k_is)
    (case icLone => k_is)
    (case suNoHouseNoHouse => first | rfl | k_is)
    (case suNoTieNoHouse => first | rfl | k_is)
    (case suNoTieNoTie => first | rfl | k_is)
    (case suLoneNoHouse => first | rfl | k_is)
    (case suLoneNoTie => first | rfl | k_is)
    (case suLoneLone => first | rfl | k_is)
    (case suNoWayNoWay => first | rfl | k_is)
    (case zlen => k_is)
    (case zrange => k_is)
    (case zlist => k_is)
    (case ztuple => k_is)
    (case zisinstance => k_is)
    (case zbool => k_is)
    (case zint => k_is)
    (case zstr => k_is)
    (case zall => k_is)
    (case zzip => k_is)
    (case zsum => k_is)
    (case zmin => k_is)
    (case zsorted => k_is)
    (case zabs => k_is)
    (case zenumerate => k_is)
