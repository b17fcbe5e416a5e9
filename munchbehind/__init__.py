"""How much dearer is greedy instruction selection than the cheapest one?"""
